"""creditturns.lookers: right papers, the same papers with one part otherwise, and errors ahead of any look."""

import random

from creditturns.aparts import Apart, Widest, apart, widest
from creditturns.buckets import Bucket
from creditturns.delays import Delay, Growing, delay, growing
from creditturns.errors import BadBucket, BadFlow, BadLink, BadNumber, Grows, Known, NoFlow, NoSum, TooMany
from creditturns.flows import Fed, FedSingle, Flow, Single
from creditturns.lengths import Lengths
from creditturns.links import Link
from creditturns.lookers import Looker
from creditturns.plays import Arrival, Play
from creditturns.ratios import Ratio
from creditturns.services import service, until
from creditturns.waits import Latest, latest
from creditturns.worsts import Worst, worst
from tests.drawn import drawn_links, drawn_play, sent_until, spans_of
from tests.helper import Case, any_values, is_from, is_integer, other_values

A, B, C = Single("a", 1, 1), Single("b", 2, 3), Flow("c", 4, Lengths(4, 6))
TRIO = Link(1, A, B, C)
BUCKET = Bucket(2, 1, 6)


class Looks(Case):
    """What the tests of all methods share: a paper with one part otherwise."""

    def parts_otherwise(self, paper, field, work, further=()):
        """The paper is right with just this value in its field, and with no other one, nor with another kind of it."""
        right = getattr(paper, field)
        values = [*any_values(), *further]
        if is_integer(right):
            values += [right - 1, right + 1, -right, Ratio(right), str(right), (right,), [right], bool(right)]
        for value in values:
            if type(value) is not type(right) or value != right:
                row = {**vars(paper), field: value}
                self.assertIs(work(type(paper)(**row)), False, (field, value))
        self.assertIs(work(type(paper)(**vars(paper))), True)

    def papers_of_other_classes(self, made, work):
        for value in other_values(lambda value: isinstance(value, made)):
            self.assertIs(work(value), False)


class Makes(Case):

    def test_link(self):
        for looker in (Looker(TRIO), Looker(link=TRIO)):
            self.assertEqual(looker.link, TRIO)
            self.assertIs(type(looker.link), Link)
        for value in other_values(lambda value: isinstance(value, Link)):
            self.refuses(BadLink("link"), Looker, value)


class Latests(Looks):

    def test_right_ones_and_others(self):
        for link in (TRIO, Link(2, A), *drawn_links(71, 12)):
            looker = Looker(link)
            for name in link.names[:2]:
                bits = link[name].lengths.ceiling(7)
                right = latest(link, name, bits)
                work = lambda value: looker.latest(value, name, bits)
                self.assertIs(looker.latest(name=name, value=right, bits=bits), True)
                self.papers_of_other_classes(Latest, work)
                for field in ("ticks", "turn"):
                    self.parts_otherwise(right, field, work)
                self.parts_otherwise(right, "mosts", work, self.tables(right.mosts))
                self.assertIs(looker.latest(right, name, link[name].lengths.ceiling(bits + 1)), False)

    def tables(self, mosts):
        """The table with a name more or less, or with one number otherwise."""
        yield {**mosts, "x": 1}
        yield {**mosts, 1: 1}
        yield list(mosts.items())
        yield tuple(mosts.values())
        for name, number in mosts.items():
            yield {other: mosts[other] for other in mosts if other != name}
            yield {(other + "x" if other == name else other): mosts[other] for other in mosts}
            for value in (number - 1, number + 1, Ratio(number), str(number), None, True, [number]):
                yield {**mosts, name: value}

    def test_true_for_1(self):
        looker = Looker(Link(1, A, Single("b", 1, 1)))
        self.assertIs(looker.latest(Latest(4, 1, {"b": 1}), "a", 1), True)
        self.assertIs(looker.latest(Latest(4, True, {"b": 1}), "a", 1), False)
        self.assertIs(looker.latest(Latest(4, 1, {"b": True}), "a", 1), False)

    def test_other_names_and_links(self):
        right = latest(TRIO, "a", 2)
        self.assertIs(Looker(TRIO).latest(right, "b", 3), False)
        self.assertIs(Looker(TRIO.with_gap(2)).latest(right, "a", 2), False)
        self.assertIs(Looker(TRIO - "c").latest(right, "a", 2), False)


class Worsts(Looks):

    def test_right_ones_and_others(self):
        for link in (TRIO, Link(2, A), *drawn_links(72, 10, longest=6)):
            looker = Looker(link)
            for name in link.names[:2]:
                bits = link[name].longest
                try:
                    right = worst(link, name, bits)
                except TooMany:
                    continue
                work = lambda value: looker.worst(value, name, bits)
                self.assertIs(looker.worst(bits=bits, name=name, value=right), True)
                self.papers_of_other_classes(Worst, work)
                self.parts_otherwise(right, "number", work)
                self.parts_otherwise(right, "play", work, [Play(link, []), Play(link, right.play.arrivals[:-1]),
                                                           Play(link.with_gap(link.gap + 1), right.play.arrivals)])
                self.assertIs(looker.worst(right, name, link[name].lengths.ceiling(bits + 1)), False)

    def test_any_play(self):
        link = Link(1, A, B)
        looker = Looker(link)
        found = worst(link, "a", 2)
        more = [*found.play.arrivals, Arrival(90, "b", 3), Arrival(90, "a", 1), Arrival(10 ** 12, "a", 1)]
        self.assertIs(looker.worst(Worst(Play(link, more), found.number), "a", 2), True)
        self.assertIs(looker.worst(Worst(Play(Link(1, B, Flow("a", 1, Lengths(1))), more), found.number), "a", 2), True)
        ahead = [Arrival(0, "a", 1), *[Arrival(one.moment + 50, one.name, one.length) for one in more[:-1]]]
        self.assertIs(looker.worst(Worst(Play(link, ahead), found.number + 1), "a", 2), True)
        self.assertIs(looker.worst(Worst(Play(link, ahead), found.number), "a", 2), False)
        # What is known of b alone: a packet of 3 is as late as 2 bits of a make it.
        wide = [Arrival(one.moment, one.name, one.length) for one in worst(link, "b", 3).play.arrivals]
        self.assertIs(looker.worst(Worst(Play(link, wide + [Arrival(500, "b", 3)]), 0), "b", 3), True)
        self.assertIs(looker.worst(Worst(Play(link, wide + [Arrival(500, "b", 3)]), 1), "b", 3), False)

    def test_all_packets_of_drawn_plays(self):
        told = random.Random(4)
        seen = 0
        for link in drawn_links(73, 150):
            looker = Looker(link)
            play = drawn_play(told, link, 12)
            for name in link.names:
                for stretch in play.stretches(name):
                    for one in stretch:
                        right = (one.came == stretch[0].came
                                 and play.delay(name, one.number) == latest(link, name, one.bits).ticks)
                        seen += right
                        self.assertIs(looker.worst(Worst(play, one.number), name, one.bits), right)
                        self.assertIs(looker.worst(Worst(play, one.number), name,
                                                   link[name].lengths.ceiling(one.bits + 1)), False)
        self.assertGreater(seen, 20)

    def test_another_packet_that_is_as_late(self):
        # The third packet of a is as late as the first one can be, but ends at bit 3.
        link = Link(1, A, B)
        play = Play(link, [Arrival(0, "a", 1)] * 3)
        self.assertEqual((play.delay("a", 2), latest(link, "a", 1).ticks), (6, 6))
        self.assertIs(Looker(link).worst(Worst(play, 2), "a", 1), False)
        self.assertIs(Looker(link).worst(Worst(play, 2), "a", 3), False)

    def test_a_packet_that_comes_behind_the_first_one(self):
        # It is as long under way as it can be, but did not come with the first packet.
        link = Link(2, A)
        play = Play(link, [Arrival(0, "a", 1), Arrival(1, "a", 1)])
        self.assertEqual((play.delay("a", 1), latest(link, "a", 2).ticks), (5, 6))
        late = Play(link, [Arrival(0, "a", 1), Arrival(0, "a", 1)])
        self.assertIs(Looker(link).worst(Worst(late, 1), "a", 2), True)
        self.assertIs(Looker(link).worst(Worst(play, 1), "a", 2), False)

    def test_more_bits_than_the_function_lets(self):
        link = Link(1, Single("a", 200, 50), Single("b", 200, 50))
        self.refuses(TooMany("bits", 300), worst, link, "a", 200)
        play = Play(link, [Arrival(0, "b", 50)] * 4 + [Arrival(0, "a", 50)] * 4)
        self.assertEqual(play.delay("a", 3), latest(link, "a", 200).ticks)
        self.assertIs(Looker(link).worst(Worst(play, 3), "a", 200), True)
        self.assertIs(Looker(link).worst(Worst(play, 2), "a", 200), False)
        self.assertIs(Looker(link).worst(None, "a", 10 ** 30 * 50), False)


class Delays(Looks):

    def test_right_ones_and_others(self):
        looker = Looker(Link(1, FedSingle("a", 1, 1, BUCKET), B))
        for bucket in (BUCKET, Bucket(2, 1, 5), Bucket(9, 2, 30), None):
            right = delay(looker.link, "a", bucket)
            work = lambda value: looker.delay(value, "a", bucket)
            self.assertIs(looker.delay(bucket=bucket, name="a", value=right), True)
            self.papers_of_other_classes(Delay, work)
            for field in ("ticks", "bits"):
                self.parts_otherwise(right, field, work)
        self.assertIs(looker.delay(Delay(12, 2), "a"), True)
        self.assertIs(looker.delay(Delay(12, 5), "a", Bucket(2, 1, 5)), False)
        self.assertIs(looker.delay(Delay(12, 2), "b", Bucket(3, 1, 60)), False)

    def test_true_for_1(self):
        looker = Looker(Link(1, Single("a", 5, 1)))
        self.assertEqual(delay(looker.link, "a", Bucket(1, 1, 9)), Delay(2, 1))
        self.assertIs(looker.delay(Delay(2, 1), "a", Bucket(1, 1, 9)), True)
        self.assertIs(looker.delay(Delay(2, True), "a", Bucket(1, 1, 9)), False)

    def test_delays_without_a_bound(self):
        looker = Looker(Link(1, A, B))
        for bucket in (Bucket(2, 1, 4), Bucket(1000000, 1, 1)):
            self.assertRaises(Grows, delay, looker.link, "a", bucket)
            for value in [*any_values(), Delay(12, 2)]:
                self.assertIs(looker.delay(value, "a", bucket), False)

    def test_too_many_bits(self):
        looker = Looker(Link(1, A))
        for value in any_values():
            self.refuses(TooMany("bits", 20000), looker.delay, value, "a", Bucket(19999, 1, 9))
        self.assertIs(looker.delay(delay(looker.link, "a", Bucket(19998, 1, 9)), "a", Bucket(19998, 1, 9)), True)


class Grown(Looks):

    def test_right_ones_and_others(self):
        for link in (Link(1, A, B), Link(1, FedSingle("a", 1, 1, Bucket(2, 1, 4)), B), Link(2, B.renamed("a"), C)):
            looker = Looker(link)
            for bucket in (Bucket(3, 1, 2), Bucket(5, 3, 4)):
                right = growing(link, "a", bucket)
                work = lambda value: looker.grows(value, "a", bucket)
                self.assertIs(looker.grows(bucket=bucket, name="a", value=right), True)
                self.papers_of_other_classes(Growing, work)
                for field in ("bits", "further", "ticks", "more"):
                    self.parts_otherwise(right, field, work)
        self.assertIs(Looker(Link(1, A, B)).grows(Growing(3, 3, 11, 3), "a", Bucket(2, 1, 4)), True)
        fed = Looker(Link(1, FedSingle("a", 1, 1, Bucket(2, 1, 4)), B))
        self.assertIs(fed.grows(Growing(3, 3, 11, 3), "a"), True)
        self.assertIs(fed.grows(Growing(3, 3, 11, 3), "a", None), True)
        self.assertIs(fed.grows(Growing(3, 3, 11, 3), "a", Bucket(2, 1, 3)), False)

    def test_other_numbers_than_the_function_tells(self):
        link = Link(1, A, B)
        looker = Looker(link)
        bucket = Bucket(2, 1, 4)
        for bits in range(-2, 40):
            for further in range(-3, 13):
                ticks = more = 0
                if bits > 0 and bits + further > 0:
                    ticks = self.late(link, bits, bucket)
                    more = self.late(link, bits + further, bucket) - ticks
                # b is regular from the first turn on; its round is 3.
                is_right = bits >= 2 and further > 0 and further % 3 == 0
                self.assertIs(looker.grows(Growing(bits, further, ticks, more), "a", bucket), is_right)
                self.assertIs(looker.grows(Growing(bits, further, ticks + 1, more), "a", bucket), False)
                self.assertIs(looker.grows(Growing(bits, further, ticks, more + 1), "a", bucket), False)
        wide = 10 ** 60 + 2
        self.assertIs(looker.grows(Growing(wide, 3, self.late(link, wide, bucket), 3), "a", bucket), True)

    def late(self, link, bits, bucket):
        return latest(link, "a", bits).ticks - bucket.earliest(bits)

    def test_each_condition(self):
        # The rate is 4, the divisor 6, the quantum 4, the round of c by its quantum 9 is 2; c is regular from 1 on.
        link = Link(1, Flow("a", 4, Lengths(12, 18)), Flow("c", 9, Lengths(2, 4, 6)), Flow("d", 1, Lengths(3, 5)))
        looker = Looker(link)
        bucket = Bucket(21, 4, 1)
        seen = set()
        for bits in range(0, 140):
            for further in range(0, 150):
                if bits % 6 == 0 and bits and link["a"].lengths.has(bits) and link["a"].lengths.has(bits + further):
                    ticks = self.late(link, bits, bucket)
                    more = self.late(link, bits + further, bucket) - ticks
                    turn = -(-bits // 4)
                    is_right = bits >= 21 and bits >= 12 and turn >= 9 and further > 0 and further % 24 == 0
                    seen.add(is_right)
                    self.assertIs(looker.grows(Growing(bits, further, ticks, more), "a", bucket), is_right, (bits, further))
        self.assertEqual(seen, {True, False})

    def test_sums_below_the_conductor(self):
        # The sums of 4 and 7 are 4, 7, 8, 11, 12, 14, 15, 16 and all from 18 on; those of 8 and 14 are twice as many.
        for numbers, step in (((4, 7), 1), ((8, 14), 2)):
            link = Link(1, Flow("a", 1, Lengths(*numbers)))
            bucket = Bucket(numbers[1], 1, 1)
            for bits in range(1, 30 * step):
                ticks = bits * 2 - bucket.earliest(bits)
                is_right = bits >= 18 * step and bits % step == 0
                self.assertIs(Looker(link).grows(Growing(bits, 2, ticks, 2), "a", bucket), is_right, bits)

    def test_delays_with_a_bound(self):
        looker = Looker(Link(1, A, B))
        for every in (5, 6):
            for value in [*any_values(), Growing(3, 3, 11, 3), Growing(3, 3, 9, 0), Growing(3, 3, 10, 0),
                          Growing(3, 3, 9, -3)]:
                self.assertIs(looker.grows(value, "a", Bucket(2, 1, every)), False)

    def test_no_too_many(self):
        looker = Looker(Link(1, A))
        self.assertIs(looker.grows(None, "a", Bucket(1000000, 1, 9)), False)
        right = growing(looker.link, "a", Bucket(1000000, 1, 1))
        self.assertIs(looker.grows(right, "a", Bucket(1000000, 1, 1)), True)


class Aparts(Looks):

    def test_right_ones_and_others(self):
        looker = Looker(TRIO)
        for name in TRIO.names:
            for other in TRIO.names:
                right = apart(TRIO[name], TRIO[other])
                work = lambda value: looker.apart(value, name, other)
                self.assertIs(looker.apart(other=other, name=name, value=right), True)
                self.papers_of_other_classes(Apart, work)
                for field in ("number", "turns"):
                    self.parts_otherwise(right, field, work)
                for value in [*any_values(), right.ratio + 1, -right.ratio, right.ratio.top]:
                    if not isinstance(value, Ratio) or value != right.ratio:
                        self.assertIs(work(Apart(right.number, right.turns, value)), False)

    def test_one_flow_with_itself(self):
        looker = Looker(TRIO)
        self.assertIs(looker.apart(Apart(1, 0, Ratio(1)), "a", "a"), True)
        for value in (1, True, "1", Ratio(2)):
            self.assertIs(looker.apart(Apart(1, 0, value), "a", "a"), False)
        self.assertIs(looker.apart(Apart(True, 0, Ratio(1)), "a", "a"), False)
        self.assertIs(looker.apart(Apart(1, False, Ratio(1)), "a", "a"), False)
        self.assertIs(looker.apart(Apart(24, 1, Ratio(24, 8)), "c", "b"), True)
        self.assertIs(looker.apart(Apart(24, 1, 3), "c", "b"), False)


class Widests(Looks):

    def test_right_ones_and_others(self):
        for name, other in (("a", "b"), ("c", "b"), ("b", "c"), ("c", "a")):
            looker = Looker(TRIO)
            right = widest(TRIO, name, other)
            work = lambda value: looker.widest(value, name, other)
            self.assertIs(looker.widest(other=other, name=name, value=right), True)
            self.papers_of_other_classes(Widest, work)
            for value in [*any_values(), Ratio(right.begins), Ratio(right.ends), *range(-2, right.play.finish + 2)]:
                for one in (Widest(right.play, value, right.ends), Widest(right.play, right.begins, value)):
                    self.assertIs(work(one), type(value) is int and self.is_plain(one, name, other))
            self.parts_otherwise(right, "play", work, [Play(TRIO, []), Play(TRIO.with_gap(2), right.play.arrivals)])
            self.assertIs(looker.widest(right, other, name), self.is_plain(right, other, name))

    def is_plain(self, value, name, other):
        """Whether a Widest is right, by the ticks in which the flows send."""
        play, begins, ends = value.play, value.begins, value.ends
        for one in (name, other):
            if not any(first <= begins and ends <= last for first, last in spans_of(play, one)):
                return False
        sent = [sent_until(play, one, ends) - sent_until(play, one, begins) for one in (name, other)]
        number = sent[0] * play.link[other].quantum - sent[1] * play.link[name].quantum
        return begins <= ends and number == apart(play.link[name], play.link[other]).number

    def test_all_moments_of_drawn_plays(self):
        told = random.Random(7)
        seen = {True: 0, False: 0}
        for link in drawn_links(74, 120, least=2, longest=5):
            looker = Looker(link)
            try:
                right = widest(link, "a", "b")
                further = [Arrival(one.moment + right.ends + 9, one.name, one.length)
                           for one in drawn_play(told, link, 9).arrivals]
                play = Play(link, [*right.play.arrivals, *further])
            except TooMany:
                play, right = drawn_play(told, link, 14), Widest(None, 9, 30)
            rows = [Widest(play, max(0, right.begins + told.randrange(-3, 4)), max(0, right.ends + told.randrange(-4, 5)))
                    for _ in range(8)] + [Widest(play, right.begins, right.ends)]
            rows += [Widest(play, told.randrange(play.finish), told.randrange(play.finish)) for _ in range(20)]
            for value in rows:
                is_right = self.is_plain(value, "a", "b")
                seen[is_right] += 1
                self.assertIs(looker.widest(value, "a", "b"), is_right)
        self.assertGreater(min(seen.values()), 100)

    def test_any_play_and_any_moments_with_the_number(self):
        link = Link(1, A, Single("b", 1, 1))
        play = Play(link, [Arrival(0, "a", 1), Arrival(0, "a", 1), Arrival(0, "b", 1), Arrival(0, "b", 1)])
        # a sends from 1 to 2 and b from 3 to 4, then both once more; number is 1.
        self.assertEqual([(one.name, one.ended) for one in play.sent], [("a", 2), ("b", 4), ("a", 6), ("b", 8)])
        right = [(begins, ends) for begins in range(-1, 9) for ends in range(-1, 9)
                 if Looker(link).widest(Widest(play, begins, ends), "a", "b")]
        self.assertEqual(right, [(0, 2), (0, 3), (0, 6), (1, 2), (1, 3), (1, 6), (4, 6), (5, 6)])

    def test_stretches_of_their_own(self):
        # Between both stretches of a it does not wait, though it sends as much.
        link = Link(1, Single("a", 2, 1), Single("b", 1, 9))
        play = Play(link, [Arrival(0, "b", 9), Arrival(0, "a", 1), Arrival(3, "a", 1)])
        self.assertEqual(len(play.stretches("a")), 2)
        for begins in range(play.finish):
            for ends in range(begins, play.finish + 1):
                value = Widest(play, begins, ends)
                self.assertIs(Looker(link).widest(value, "a", "b"), self.is_plain(value, "a", "b"))

    def test_more_bits_than_the_function_lets(self):
        link = Link(1, A, Single("d", 1000, 50))
        self.refuses(TooMany("bits", 300), widest, link, "d", "a")
        play = Play(link, [Arrival(0, "d", 50)] * 41 + [Arrival(0, "a", 1)] * 2)
        rows = [(begins, ends) for begins in (0, 1) for ends in range(play.finish + 1)]
        right = []
        for begins, ends in rows:
            value = Widest(play, begins, ends)
            self.assertIs(Looker(link).widest(value, "d", "a"), self.is_plain(value, "d", "a"))
            right += [value] if self.is_plain(value, "d", "a") else []
        self.assertGreater(len(right), 0)


class Services(Looks):

    def test_the_least_bits(self):
        for link in (TRIO, *drawn_links(75, 15)):
            looker = Looker(link)
            name = link.names[0]
            for ticks in (0, 1, 5, 6, 30, 31, 200, 10 ** 20):
                right = service(link, name, ticks)
                self.assertIs(looker.service(value=right, name=name, ticks=ticks), True)
                values = [*any_values(), right - 1, right + 1, Ratio(right), str(right), bool(right), [right], (right,)]
                for value in values:
                    if type(value) is not int or value != right:
                        self.assertIs(looker.service(value, name, ticks), False)
                self.assertTrue(until(link, name, right) >= ticks)


class Errors(Looks):

    VALUES = (None, True, Latest(1, 1, {}), Delay(1, 1), Apart(1, 0, Ratio(1)))

    def test_names(self):
        looker = Looker(Link(1, A, B))
        for name in other_values(lambda value: isinstance(value, str) and value in ("a", "b")):
            for value in self.VALUES:
                for work in (looker.latest, looker.worst, looker.service):
                    self.refuses(NoFlow(name), work, value, name, None)
                for work in (looker.delay, looker.grows):
                    self.refuses(NoFlow(name), work, value, name)
                    self.refuses(NoFlow(name), work, value, name, "no")
                for work in (looker.apart, looker.widest):
                    self.refuses(NoFlow(name), work, value, name, "x")
                    self.refuses(NoFlow(name), work, value, "a", name)
        for value in self.VALUES:
            self.refuses(Known("a"), looker.widest, value, "a", "a")
            self.assertIs(looker.apart(value, "a", "a"), value == Apart(1, 0, Ratio(1)))

    def test_numbers(self):
        looker = Looker(Link(1, A, B))
        for value in self.VALUES:
            for number in other_values(lambda value: is_from(value, 0, 10 ** 60)):
                for work in (looker.latest, looker.worst, looker.service):
                    self.refuses(BadNumber(number), work, value, "b", number)
            for number in (0, 1, 4, 10 ** 30):
                for work in (looker.latest, looker.worst):
                    self.refuses(NoSum(number), work, value, "b", number)

    def test_buckets(self):
        looker = Looker(Link(1, A, Fed("b", 2, Lengths(3), Bucket(3, 1, 100))))
        for value in self.VALUES:
            for work in (looker.delay, looker.grows):
                for bucket in other_values(lambda value: value is None or isinstance(value, Bucket)):
                    self.refuses(BadBucket("bucket"), work, value, "a", bucket)
                    self.refuses(BadBucket("bucket"), work, value, "b", bucket)
                self.refuses(BadFlow("bucket"), work, value, "a")
                self.refuses(BadFlow("bucket"), work, value, "a", None)
                for bucket in (Bucket(2, 1, 100), Bucket(3, 2, 100)):
                    self.refuses(BadBucket("burst"), work, value, "b", bucket)
                self.assertIs(work(value, "b"), False)
