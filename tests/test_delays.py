"""creditturns.delays: the greatest delay against all sums of whole rounds, and beside drawn plays."""

import random
from math import gcd, lcm

from creditturns.buckets import Bucket
from creditturns.delays import Delay, Growing, delay, growing
from creditturns.errors import BadBucket, BadFlow, BadLink, Grows, NoFlow, Round, TooMany
from creditturns.flows import Fed, FedSingle, FedSpread, Flow, Single, Spread
from creditturns.lengths import Lengths
from creditturns.links import Link
from creditturns.plays import Arrival, Play
from creditturns.waits import latest
from tests.drawn import drawn_links
from tests.helper import Case, any_values, is_from, other_values

A, B, C = Single("a", 1, 1), Single("b", 2, 3), Flow("c", 4, Lengths(4, 6))
DUO = Link(1, A, B)
BUCKET = Bucket(2, 1, 6)


def turns_of_bound(link, name, bucket):
    """The p and the m of the document, counted one by one."""
    flow, others, turns = link[name], link.others(name), 1
    while not (all(other.is_regular(turns) for other in others)
               and (turns - 1) * flow.quantum >= max(flow.lengths.conductor, bucket.burst)):
        turns += 1
    common = lcm(flow.lengths.divisor, bucket.rate)
    return turns, lcm(*[other.round_of for other in others], common // gcd(common, flow.quantum))


def delay_of(link, name, bucket, bits):
    return latest(link, name, bits).ticks - bucket.earliest(bits)


def plain_delay(link, name, bucket, turns):
    """The greatest delay over all sums of so many turns, with the least bits."""
    flow = link[name]
    sums = [bits for bits in range(1, turns * flow.quantum + 1) if flow.lengths.has(bits)]
    ticks, bits = max((delay_of(link, name, bucket, bits), -bits) for bits in sums)
    return Delay(ticks, -bits)


def has_bound(link, name, bucket):
    return bucket.rate * link.cycle <= bucket.every * link[name].quantum


def drawn_bucket(told, link, name, has_bound):
    """A Bucket that fits, whose rate is a little below or above what the flow gets in the end."""
    rate = told.randrange(1, 9)
    every = rate * link.cycle // link[name].quantum + (told.randrange(1, 4) if has_bound else -told.randrange(3))
    return Bucket(link[name].longest + rate - 1 + told.randrange(12), rate, min(1000, max(1, every)))


class Delays(Case):

    def test_by_hand(self):
        told = [latest(DUO, "a", bits).ticks - BUCKET.earliest(bits) for bits in range(1, 7)]
        self.assertEqual(told, [6, 12, 9, 9, 9, 6])
        self.assertEqual(delay(DUO, "a", BUCKET), Delay(12, 2))
        self.assertEqual(delay(bucket=Bucket(2, 1, 5), name="a", link=DUO), Delay(12, 2))
        self.assertEqual(delay(Link(5, C), "c", Bucket(6, 1, 1000)), Delay(16, 6))
        self.assertEqual(delay(Link(5, C), "c", Bucket(10, 1, 1000)), Delay(25, 10))

    def test_against_all_sums_of_whole_rounds(self):
        told = random.Random(2)
        for link in drawn_links(6, 60):
            name = told.choice(link.names)
            bucket = drawn_bucket(told, link, name, True)
            if has_bound(link, name, bucket):
                turns, further = turns_of_bound(link, name, bucket)
                if (turns + further) * link[name].quantum <= 1500:
                    found = delay(link, name, bucket)
                    self.assertIs(type(found), Delay)
                    self.assertEqual(found, plain_delay(link, name, bucket, turns + 2 * further))
                    self.same(found.ticks, delay_of(link, name, bucket, found.bits))
                    self.assertIs(growing(link, name, bucket), None)

    def test_a_rate_that_is_just_what_the_flow_gets(self):
        for rate, every in ((1, 5), (2, 10), (7, 35), (200, 1000)):
            bucket = Bucket(rate + 8, rate, every)
            turns, further = turns_of_bound(DUO, "a", bucket)
            self.assertEqual(delay(DUO, "a", bucket), plain_delay(DUO, "a", bucket, turns + 2 * further))
            self.assertIs(growing(DUO, "a", bucket), None)
            above = Bucket(rate + 8, rate, every - 1)
            self.assertRaises(Grows, delay, DUO, "a", above)
            self.assertIsInstance(growing(DUO, "a", above), Growing)

    def test_a_greatest_delay_in_the_first_turn(self):
        self.assertEqual(delay(Link(3, Single("a", 10, 1)), "a", Bucket(5, 1, 1000)), Delay(8, 5))
        self.assertEqual(delay(Link(3, Single("a", 10, 1)), "a", Bucket(10, 1, 1000)), Delay(13, 10))
        self.assertEqual(delay(Link(3, Single("a", 10, 1)), "a", Bucket(11, 1, 1000)), Delay(17, 11))

    def test_the_least_bits_with_the_greatest_delay(self):
        # 6, 12, 10, 11, 12, 10 and so on: 12 comes again with each round.
        self.assertEqual(delay(DUO, "a", Bucket(2, 1, 5)).bits, 2)
        # With one flow alone all bits beyond the burst are equally late.
        self.assertEqual(delay(Link(3, A), "a", Bucket(5, 1, 4)), Delay(20, 5))

    def test_the_bucket_of_a_fed_and_one_that_is_told(self):
        wide = Bucket(9, 1, 6)
        for flow in (Fed("a", 1, Lengths(1), BUCKET), FedSingle("a", 1, 1, BUCKET), FedSpread("a", 1, 1, 1, BUCKET)):
            link = DUO | flow
            self.assertEqual(delay(link, "a"), Delay(12, 2))
            self.assertEqual(delay(link, "a", None), Delay(12, 2))
            self.assertEqual(delay(link, "a", bucket=wide), delay(DUO, "a", wide))
            self.assertNotEqual(delay(link, "a", wide), Delay(12, 2))
            self.assertIs(growing(link, "a"), None)
            self.assertIsInstance(growing(link, "a", Bucket(2, 1, 4)), Growing)
        # The buckets of the others play no part.
        self.assertEqual(delay(DUO | FedSingle("b", 2, 3, Bucket(3, 1, 1000)), "a", BUCKET), Delay(12, 2))


class Plays(Case):

    def test_no_packet_is_later(self):
        told = random.Random(9)
        for link in drawn_links(10, 80):
            name = told.choice(link.names)
            bucket = drawn_bucket(told, link, name, True)
            if has_bound(link, name, bucket):
                try:
                    bound = delay(link, name, bucket).ticks
                except TooMany:
                    continue
                for _ in range(4):
                    play = self.play(told, link, name, bucket)
                    self.assertTrue(bucket.lets(play.comings(name)))
                    for number in range(len(play.comings(name))):
                        self.assertLessEqual(play.delay(name, number), bound)

    def play(self, told, link, name, bucket):
        """As many packets of the flow as the bucket lets, or nearly so, and many of the others."""
        comings, arrivals = [], []
        for moment in range(told.choice((20, 120))):
            for _ in range(told.randrange(4)):
                length = told.choice(link[name].lengths.numbers)
                if bucket.lets(comings + [(moment, length)]):
                    comings.append((moment, length))
                    arrivals.append(Arrival(moment, name, length))
            for other in link.others(name):
                if told.randrange(8) == 0:
                    arrivals.append(Arrival(moment, other.name, told.choice(other.lengths.numbers)))
        return Play(link, arrivals[:300])

    def test_a_delay_that_is_reached(self):
        link = Link(2, Single("d", 3, 3), FedSingle("a", 1, 1, Bucket(4, 1, 20)))
        play = Play(link, [Arrival(0, "d", 3)] * 5 + [Arrival(0, "a", 1)] * 4)
        self.assertEqual(delay(link, "a"), Delay(play.delay("a", 3), 4))


class Bounds(Case):

    def look(self, link, name, bucket, whole):
        turns, further = turns_of_bound(link, name, bucket)
        self.assertEqual((turns + further) * link[name].quantum, whole)
        if whole <= 20000:
            self.assertIsInstance(delay(link, name, bucket), Delay)
        else:
            self.refuses(TooMany("bits", 20000), delay, link, name, bucket)
        self.assertIs(growing(link, name, bucket), None)

    def test_by_the_burst(self):
        self.look(Link(1, A), "a", Bucket(19998, 1, 9), 20000)
        self.look(Link(1, A), "a", Bucket(19999, 1, 9), 20001)
        self.look(Link(1, A), "a", Bucket(1000000, 1, 9), 1000002)
        self.look(Link(1, Single("a", 1000, 1)), "a", Bucket(18000, 1, 9), 20000)
        self.look(Link(1, Single("a", 1000, 1)), "a", Bucket(18001, 1, 9), 21000)

    def test_by_the_rate(self):
        self.look(Link(1, A), "a", Bucket(19500, 499, 998), 20000)
        self.look(Link(1, A), "a", Bucket(19500, 500, 1000), 20001)

    def test_by_a_rate_that_shares_a_divisor_with_the_quantum(self):
        self.look(Link(1, Single("a", 10, 1)), "a", Bucket(19980, 10, 11), 20000)
        self.look(Link(1, Single("a", 10, 1)), "a", Bucket(19981, 10, 11), 20010)
        self.look(Link(1, Single("a", 10, 4)), "a", Bucket(19930, 15, 100), 20000)
        self.look(Link(1, Single("a", 10, 4)), "a", Bucket(19931, 15, 100), 20010)

    def test_by_the_divisor(self):
        self.look(Link(1, Single("a", 1, 10)), "a", Bucket(19989, 1, 90), 20000)
        self.look(Link(1, Single("a", 1, 10)), "a", Bucket(19990, 1, 90), 20001)
        self.look(Link(1, Single("a", 1, 10)), "a", Bucket(19969, 3, 90), 20000)
        self.look(Link(1, Single("a", 1, 10)), "a", Bucket(19970, 3, 90), 20001)

    def test_by_the_conductor(self):
        # The conductor of 59 and 60 is 58 * 59.
        self.look(Link(1, Flow("a", 1000, Lengths(59, 60))), "a", Bucket(60, 1, 9), 6000)
        self.look(Link(1, Flow("a", 1, Lengths(59, 60))), "a", Bucket(60, 1, 9), 3422 + 2)

    def test_by_the_others(self):
        # The flow d is regular from the turn 1712 on: 2 * 1712 is above its conductor, 3422.
        even = Flow("d", 2, Lengths(59, 60))
        self.look(Link(1, Single("a", 8, 1), even, Single("e", 1, 4)), "a", Bucket(197, 197, 345), (1712 + 788) * 8)
        self.look(Link(1, Single("a", 8, 1), even, Single("e", 1, 3)), "a", Bucket(263, 263, 461), (1712 + 789) * 8)
        slow = Flow("d", 1, Lengths(59, 60))
        self.look(Link(1, Single("a", 5, 1), slow), "a", Bucket(60, 1, 9), (3423 + 1) * 5)
        self.look(Link(1, Single("a", 6, 1), slow), "a", Bucket(60, 1, 9), (3423 + 1) * 6)
        self.look(Link(1, Single("a", 5, 1), slow, Single("e", 7, 60)), "a", Bucket(60, 1, 9), (3423 + 60) * 5)
        self.look(Link(1, Single("a", 1, 1), Single("d", 1, 49), Single("e", 3, 50)), "a", Bucket(17549, 1, 20), 20000)
        self.look(Link(1, Single("a", 1, 1), Single("d", 1, 49), Single("e", 3, 50)), "a", Bucket(17550, 1, 20), 20001)


def floors_of(numbers, most):
    """The floor of each number from 0 to most, told by adding alone."""
    is_sum, floors = [True], [0]
    for number in range(1, most + 1):
        is_sum.append(any(length <= number and is_sum[number - length] for length in numbers))
        floors.append(number if is_sum[-1] else floors[-1])
    return floors


def delay_of_all_sums(link, name, bucket, whole):
    """The greatest delay over all sums up to whole bits, without any function of the package."""
    flow = link[name]
    turns = whole // flow.quantum
    waits = [turn * len(link) * link.gap for turn in range(turns + 1)]
    for other in link.others(name):
        floors = floors_of(other.lengths.numbers, turns * other.quantum)
        for turn in range(1, turns + 1):
            waits[turn] += other.longest + floors[turn * other.quantum - 1]
    best = None
    for bits, floor in enumerate(floors_of(flow.lengths.numbers, whole)):
        if bits == floor > 0:
            later = max(0, bits - bucket.burst)
            ticks = bits + waits[-(-bits // flow.quantum)] - -(-later // bucket.rate) * bucket.every
            if best is None or ticks > best.ticks:
                best = Delay(ticks, bits)
    return best


class AnswersAtTheBound(Case):

    def look(self, link, name, bucket):
        turns, further = turns_of_bound(link, name, bucket)
        self.assertEqual((turns + further) * link[name].quantum, 20000)
        self.assertTrue(has_bound(link, name, bucket))
        found = delay(link, name, bucket)
        self.assertEqual(found, delay_of_all_sums(link, name, bucket, 20000))
        self.same(found.ticks, int(found.ticks))
        self.same(found.bits, int(found.bits))

    def test_by_hand(self):
        trio = Link(5, Flow("a", 1, Lengths(2, 5)), Flow("b", 3, Lengths(4, 6)), Flow("c", 7, Lengths(1, 2, 3)))
        found = delay(trio, "a", Bucket(19900, 1, 26))
        self.assertEqual(found, Delay(517407, 19901))
        self.assertEqual(found, delay_of_all_sums(trio, "a", Bucket(19900, 1, 26), 19902))
        self.assertEqual(delay(Link(1, A), "a", Bucket(19998, 1, 2)), Delay(39996, 19998))
        self.look(Link(1, A), "a", Bucket(19998, 1, 2))

    def test_one_to_four_flows(self):
        told = random.Random(31)
        for many in (1, 2, 3, 4):
            for quantum in (1, 1, 2, 4, 5):
                flows = [Flow("abcd"[at], told.choice((1, 2, 3)), Lengths(*told.choice(((1,), (2, 3), (4, 6), (5,)))))
                         for at in range(many)]
                link = Link(told.choice((1, 4)), *flows) | flows[0].with_quantum(quantum)
                rate = told.choice((1, 2, 3))
                every = -(-rate * link.cycle // quantum) + told.choice((0, 1))
                _, further = turns_of_bound(link, "a", Bucket(500, rate, every))
                self.look(link, "a", Bucket(20000 - (further + 1) * quantum, rate, every))

    def test_long_rounds_ahead_of_which_little_comes(self):
        # Nothing is later than with the burst alone, or only far behind it.
        self.look(Link(1, A, Single("d", 1, 49), Single("e", 3, 50)), "a", Bucket(17549, 1, 8))
        self.look(Link(1, A, Single("d", 1, 49), Single("e", 3, 50)), "a", Bucket(17549, 1, 9))
        self.look(Link(1, A), "a", Bucket(19500, 499, 998))
        self.look(Link(1, Single("a", 10, 1)), "a", Bucket(19980, 10, 11))
        self.look(Link(1, Single("a", 10, 4)), "a", Bucket(19930, 15, 17))

    def test_a_greatest_delay_far_behind_the_burst(self):
        rounds = Link(1, A, Single("d", 1, 53), Single("e", 1, 59))
        found = delay(rounds, "a", Bucket(5, 5, 30))
        self.assertEqual(found, Delay(140, 6255))
        self.assertEqual(found, delay_of_all_sums(rounds, "a", Bucket(5, 5, 30), 15641))
        irregular = rounds | Flow("f", 1, Lengths(59, 60)) | Flow("g", 1, Lengths(58, 59))
        for bucket in (Bucket(5, 5, 50), Bucket(5, 5, 51)):
            self.assertEqual(delay(irregular, "a", bucket), delay_of_all_sums(irregular, "a", bucket, 19058))


class Growings(Case):

    def look(self, link, name, bucket):
        found = growing(link, name, bucket)
        self.assertIs(type(found), Growing)
        flow, others = link[name], link.others(name)
        for value in (found.bits, found.further, found.ticks, found.more):
            self.assertTrue(is_from(value, -10 ** 100, 10 ** 100))
        self.assertTrue(flow.lengths.has(found.bits))
        self.assertTrue(found.bits >= flow.lengths.conductor and found.bits >= bucket.burst)
        self.assertTrue(all(other.is_regular(flow.turn_of(found.bits)) for other in others))
        self.assertGreater(found.further, 0)
        for number in [bucket.rate, flow.lengths.divisor, flow.quantum,
                       *[flow.quantum * other.round_of for other in others]]:
            self.assertEqual(found.further % number, 0)
        self.assertGreater(found.more, 0)
        for times in (0, 1, 2, 3, 10, 10 ** 20):
            self.assertEqual(delay_of(link, name, bucket, found.bits + times * found.further),
                             found.ticks + times * found.more)
        self.assertEqual(growing(bucket=bucket, name=name, link=link), found)
        caught = self.refuses(Grows(), delay, link, name, bucket)
        self.assertIs(type(caught.__cause__), Round)
        self.assertEqual(caught.__cause__.paper, found)

    def test_right_ones(self):
        told = random.Random(12)
        seen = 0
        for link in drawn_links(7, 150, longest=60):
            name = told.choice(link.names)
            bucket = drawn_bucket(told, link, name, False)
            if not has_bound(link, name, bucket):
                seen += 1
                self.look(link, name, bucket)
        self.assertGreater(seen, 50)

    def test_by_hand(self):
        self.look(DUO, "a", Bucket(2, 1, 4))
        self.look(DUO, "b", Bucket(3, 1, 2))
        self.look(Link(1000000, C), "c", Bucket(1000000, 1000, 1))
        self.look(Link(1, A, Flow("d", 1, Lengths(59, 60)), Single("e", 7, 60)), "a", Bucket(1, 1, 1))
        self.look(Link(1, Spread("a", 1000, 1, 60)), "a", Bucket(1059, 1000, 1))

    def test_grows_ahead_of_too_many(self):
        self.look(Link(1, A), "a", Bucket(1000000, 1, 1))
        self.look(Link(9, Single("a", 1, 59), Single("d", 1, 60), Single("e", 1, 49)), "a", Bucket(900000, 7, 1))

    def test_equal_arguments_have_equal_papers(self):
        for bucket in (Bucket(2, 1, 4), Bucket(7, 3, 2)):
            self.assertEqual(growing(Link(1, B, A), "a", bucket), growing(DUO, "a", bucket))


class Errors(Case):

    def test_what_is_no_link(self):
        for work in (delay, growing):
            for value in other_values(lambda value: isinstance(value, Link)):
                for name, bucket in (("a", BUCKET), ("x", None), (None, "no")):
                    self.refuses(BadLink("link"), work, value, name, bucket)
                    self.refuses(BadLink("link"), work, value, name)

    def test_what_is_no_name_of_a_flow(self):
        for work in (delay, growing):
            for value in other_values(lambda value: isinstance(value, str) and value in ("a", "b")):
                for bucket in (BUCKET, None, "no"):
                    self.refuses(NoFlow(value), work, DUO, value, bucket)

    def test_what_is_no_bucket(self):
        for work in (delay, growing):
            for value in other_values(lambda value: value is None or isinstance(value, Bucket)):
                for link in (DUO, DUO | FedSingle("a", 1, 1, BUCKET)):
                    self.refuses(BadBucket("bucket"), work, link, "a", value)

    def test_flows_without_a_bucket(self):
        for work in (delay, growing):
            for name in ("a", "b"):
                self.refuses(BadFlow("bucket"), work, DUO, name)
                self.refuses(BadFlow("bucket"), work, DUO, name, None)
            self.refuses(BadFlow("bucket"), work, DUO | FedSingle("a", 1, 1, BUCKET), "b")

    def test_buckets_that_do_not_fit(self):
        fed = DUO | FedSingle("b", 2, 3, Bucket(3, 1, 1000))
        for work in (delay, growing):
            for link in (DUO, fed):
                for bucket in (Bucket(2, 1, 1000), Bucket(3, 2, 1), Bucket(5, 4, 1)):
                    self.refuses(BadBucket("burst"), work, link, "b", bucket)
            self.refuses(BadBucket("burst"), work, Link(1, Flow("b", 2, Lengths(1, 60))), "b", Bucket(59, 1, 1))
        self.assertIsInstance(growing(DUO, "b", Bucket(6, 4, 1)), Growing)
        self.assertIs(growing(DUO, "b", Bucket(3, 1, 1000)), None)

    def test_growing_raises_no_too_many(self):
        self.assertIs(growing(Link(1, A), "a", Bucket(1000000, 1, 9)), None)
        self.assertIs(growing(link=Link(1, A), name="a", bucket=Bucket(1000000, 1, 2)), None)


class Papers(Case):

    def test_papers(self):
        for made, fields in ((Delay, ["ticks", "bits"]), (Growing, ["bits", "further", "ticks", "more"])):
            self.keeps_any_values(made, fields)
            self.compares_as_a_paper(made, fields)
        self.assertEqual(len([value for value in any_values() if value in (Delay(7, 7), Growing(7, 7, 7, 7))]), 2)
