"""creditturns.plays: plays told by hand, and many plays beside a line that is led tick by tick."""

import random

from creditturns.errors import BadArrivals, BadLink, BadNumber, NoFlow, TooMany
from creditturns.flows import Flow, Single, Spread
from creditturns.lengths import Lengths
from creditturns.links import Link
from creditturns.plays import Arrival, Play, Sent, Turn
from creditturns.ratios import Ratio
from tests.helper import Case, any_values, is_from, other_values
from tests.plain import log_of, play_out, sent_of

A, B = Single("a", 1, 1), Single("b", 2, 3)
DUO = Link(1, A, B)


def arrivals_of(text):
    """Arrivals told as 0 b 3, with commas between them."""
    rows = [part.split() for part in text.split(",")]
    return [Arrival(int(moment), name, int(length)) for moment, name, length in rows]


class ByHand(Case):

    def look(self, link, text, log, sent):
        play = Play(link, arrivals_of(text))
        self.assertEqual(log_of(play.log), log)
        self.assertEqual(sent_of(play.sent), sent)
        self.assertIs(type(play.log), tuple)
        self.assertIs(type(play.sent), tuple)
        self.assertTrue(all(type(turn) is Turn and type(turn.lengths) is tuple for turn in play.log))
        self.assertTrue(all(type(turn.is_left) is bool for turn in play.log))
        self.assertTrue(all(type(one) is Sent for one in play.sent))
        return play

    def test_one_packet(self):
        play = self.look(Link(5, A), "3 a 1", [("a", 3, 0, (1,), 0, True)], [("a", 0, 1, 3, 9, 1, 1)])
        self.assertEqual(play.finish, 9)

    def test_no_packets(self):
        for arrivals in ([], ()):
            play = Play(DUO, arrivals)
            self.assertEqual((play.log, play.sent, play.arrivals, len(play), play.finish), ((), (), (), 0, 0))

    def test_turns_in_which_nothing_is_sent_take_the_gap(self):
        self.look(Link(4, Single("b", 2, 6)), "0 b 6",
                  [("b", 0, 0, (), 2, False), ("b", 4, 2, (), 4, False), ("b", 8, 4, (6,), 0, True)],
                  [("b", 0, 6, 0, 18, 3, 6)])

    def test_credit_that_is_left_is_forgotten(self):
        self.look(Link(1, Single("b", 5, 3)), "0 b 3, 4 b 3",
                  [("b", 0, 0, (3,), 0, True), ("b", 4, 0, (3,), 0, True)],
                  [("b", 0, 3, 0, 4, 1, 3), ("b", 1, 3, 4, 8, 1, 3)])

    def test_credit_that_is_left_is_kept_if_more_packets_wait(self):
        self.look(Link(1, Single("b", 5, 3)), "0 b 3, 0 b 3, 0 b 3",
                  [("b", 0, 0, (3,), 2, False), ("b", 4, 2, (3, 3), 0, True)],
                  [("b", 0, 3, 0, 4, 1, 3), ("b", 1, 3, 0, 8, 2, 6), ("b", 2, 3, 0, 11, 2, 9)])

    def test_an_arrival_at_the_moment_at_which_the_change_over_ends(self):
        self.look(Link(1, Single("a", 2, 1)), "0 a 1, 1 a 1", [("a", 0, 0, (1, 1), 0, True)],
                  [("a", 0, 1, 0, 2, 1, 1), ("a", 1, 1, 1, 3, 1, 2)])

    def test_an_arrival_at_the_moment_at_which_a_packet_ends(self):
        self.look(Link(1, Single("a", 2, 1)), "0 a 1, 2 a 1",
                  [("a", 0, 0, (1,), 0, True), ("a", 2, 0, (1,), 0, True)],
                  [("a", 0, 1, 0, 2, 1, 1), ("a", 1, 1, 2, 4, 1, 1)])
        self.look(Link(1, Single("a", 3, 1)), "0 a 1, 0 a 1, 2 a 1",
                  [("a", 0, 0, (1, 1, 1), 0, True)],
                  [("a", 0, 1, 0, 2, 1, 1), ("a", 1, 1, 0, 3, 1, 2), ("a", 2, 1, 2, 4, 1, 3)])

    def test_a_flow_that_joins_stands_behind_the_flow_whose_turn_ends(self):
        self.look(DUO, "0 b 3, 1 a 1",
                  [("b", 0, 0, (), 2, False), ("b", 1, 2, (3,), 0, True), ("a", 5, 0, (1,), 0, True)],
                  [("b", 0, 3, 0, 5, 2, 3), ("a", 0, 1, 1, 7, 1, 1)])

    def test_a_flow_that_joins_ahead_of_the_end_of_a_turn_goes_first(self):
        self.look(Link(2, A, B), "0 b 3, 1 a 1",
                  [("b", 0, 0, (), 2, False), ("a", 2, 0, (1,), 0, True), ("b", 5, 2, (3,), 0, True)],
                  [("a", 0, 1, 1, 5, 1, 1), ("b", 0, 3, 0, 10, 2, 3)])

    def test_flows_join_in_the_told_order(self):
        self.look(Link(1, A, Single("c", 1, 1)), "0 c 1, 0 a 1",
                  [("c", 0, 0, (1,), 0, True), ("a", 2, 0, (1,), 0, True)],
                  [("c", 0, 1, 0, 2, 1, 1), ("a", 0, 1, 0, 4, 1, 1)])
        self.look(Link(1, A, Single("c", 1, 1)), "0 a 1, 0 c 1, 0 a 1",
                  [("a", 0, 0, (1,), 0, False), ("c", 2, 0, (1,), 0, True), ("a", 4, 0, (1,), 0, True)],
                  [("a", 0, 1, 0, 2, 1, 1), ("c", 0, 1, 0, 4, 1, 1), ("a", 1, 1, 0, 6, 2, 2)])

    def test_a_flow_that_is_found_empty_joins_anew_in_the_told_order(self):
        link = Link(1, A, Single("c", 1, 1))
        first, anew = ("a", 0, 0, (1,), 0, True), ("a", 2, 0, (1,), 0, True)
        self.look(link, "0 a 1, 2 a 1, 2 c 1", [first, anew, ("c", 4, 0, (1,), 0, True)],
                  [("a", 0, 1, 0, 2, 1, 1), ("a", 1, 1, 2, 4, 1, 1), ("c", 0, 1, 2, 6, 1, 1)])
        self.look(link, "0 a 1, 2 c 1, 2 a 1", [first, ("c", 2, 0, (1,), 0, True), ("a", 4, 0, (1,), 0, True)],
                  [("a", 0, 1, 0, 2, 1, 1), ("c", 0, 1, 2, 4, 1, 1), ("a", 1, 1, 2, 6, 1, 1)])

    def test_a_packet_that_comes_in_the_turn_of_its_flow(self):
        self.look(Link(2, Single("b", 3, 3)), "0 b 3, 4 b 3",
                  [("b", 0, 0, (3,), 0, False), ("b", 5, 0, (3,), 0, True)],
                  [("b", 0, 3, 0, 5, 1, 3), ("b", 1, 3, 4, 10, 2, 6)])

    def test_a_head_that_is_longer_than_the_credit_ends_the_turn(self):
        self.look(Link(1, Flow("f", 5, Lengths(2, 4))), "0 f 4, 0 f 4, 0 f 2",
                  [("f", 0, 0, (4,), 1, False), ("f", 5, 1, (4, 2), 0, True)],
                  [("f", 0, 4, 0, 5, 1, 4), ("f", 1, 4, 0, 10, 2, 8), ("f", 2, 2, 0, 12, 2, 10)])

    def test_an_idle_time(self):
        play = self.look(DUO, "1000000000000 a 1", [("a", 10 ** 12, 0, (1,), 0, True)],
                         [("a", 0, 1, 10 ** 12, 10 ** 12 + 2, 1, 1)])
        self.assertEqual(play.finish, 10 ** 12 + 2)
        self.assertEqual(play.delay("a", 0), 2)


class BesideTickByTick(Case):

    def test_many_plays(self):
        told = random.Random(7)
        links = [DUO, Link(2, A, B), Link(1, A, B, Flow("c", 4, Lengths(4, 6))), Link(3, Spread("s", 3, 1, 5), B),
                 Link(1, Spread("s", 2, 1, 4), Spread("t", 5, 2, 3), A), Link(1, Single("p", 1, 5), Single("q", 9, 2)),
                 Link(2, *[Spread(name, at + 1, 1, 3) for at, name in enumerate("uvwxyz")])]
        for link in links:
            for times in range(60):
                self.look(link, self.arrivals(told, link, told.choice((5, 20, 60, 200))))

    def arrivals(self, told, link, span):
        moments = sorted(told.randrange(span) for _ in range(told.randrange(1, 25)))
        found = []
        for moment in moments:
            flow = link[told.choice(link.names)]
            found.append(Arrival(moment, flow.name, told.choice(flow.lengths.numbers)))
        return found

    def look(self, link, arrivals):
        play, plain = Play(link, arrivals), play_out(link, arrivals)
        self.assertEqual(log_of(play.log), plain.log)
        self.assertEqual(sent_of(play.sent), plain.sent)
        self.assertEqual(play.finish, plain.now)
        self.look_at_papers(play)
        # Further packets at the very moments at which something ends.
        if len(arrivals) < 40 and play.log:
            ends = [one.ended for one in play.sent[:3]] + [turn.moment + link.gap for turn in play.log[-2:]]
            flow = link[link.names[0]]
            more = [Arrival(moment, flow.name, flow.longest) for moment in ends]
            self.look(link, sorted(arrivals + more * 8, key=lambda one: one.moment))

    def look_at_papers(self, play):
        self.assertEqual(len(play.sent), len(play.arrivals))
        for name in play.link.names:
            stretches = play.stretches(name)
            rows = [one for stretch in stretches for one in stretch]
            self.assertEqual(rows, [one for one in play.sent if one.name == name])
            self.assertEqual([one.number for one in rows], list(range(len(rows))))
            self.assertEqual(play.comings(name), tuple((one.came, one.length) for one in rows))
            quantum = play.link[name].quantum
            for stretch in stretches:
                bits = 0
                for one in stretch:
                    bits += one.length
                    self.assertEqual((one.bits, one.turn), (bits, -(-bits // quantum)))
            self.assertEqual(len(stretches), len([turn for turn in play if turn.name == name and turn.is_left]))
        for one in play.sent:
            self.assertEqual(play.ended_at(one.name, one.number), one.ended)
            self.assertEqual(play.delay(one.name, one.number), one.ended - one.came)


class Looking(Case):

    def setUp(self):
        self.arrivals = arrivals_of("0 b 3, 0 b 3, 1 a 1, 1 a 1, 20 b 3")
        self.play = Play(DUO, self.arrivals)

    def test_properties(self):
        self.assertEqual(self.play.link, DUO)
        self.assertIs(type(self.play.arrivals), tuple)
        self.assertEqual(self.play.arrivals, tuple(arrivals_of("0 b 3, 0 b 3, 1 a 1, 1 a 1, 20 b 3")))
        self.same(self.play.finish, 25)
        self.assertEqual(Play(arrivals=self.arrivals, link=DUO), self.play)

    def test_len_items_slices_and_iteration(self):
        log = self.play.log
        self.assertEqual(len(log), 7)
        self.same(len(self.play), 7)
        self.assertEqual(list(self.play), list(log))
        self.assertEqual([turn for turn in self.play], list(log))
        for at in range(-7, 7):
            self.assertEqual(self.play[at], log[at])
        for cut in (slice(0, 2), slice(None), slice(2, None), slice(-2, None), slice(None, None, -1), slice(5, 99)):
            self.assertEqual(self.play[cut], log[cut])
            self.assertIs(type(self.play[cut]), tuple)
        for at in (7, -8, 10 ** 9):
            with self.assertRaises(IndexError):
                self.play[at]
        with self.assertRaises(IndexError):
            Play(DUO, [])[0]

    def test_ends_and_delays(self):
        told = [("b", 0, 5, 5), ("b", 1, 11, 11), ("a", 0, 7, 6), ("a", 1, 13, 12), ("b", 2, 25, 5)]
        for name, number, ended, delay in told:
            self.same(self.play.ended_at(name, number), ended)
            self.same(self.play.delay(name=name, number=number), delay)
        self.assertEqual(self.play.ended_at(number=1, name="a"), 13)

    def test_comings_and_stretches(self):
        self.assertEqual(self.play.comings("b"), ((0, 3), (0, 3), (20, 3)))
        self.assertEqual(self.play.comings(name="a"), ((1, 1), (1, 1)))
        self.assertEqual([[one.number for one in stretch] for stretch in self.play.stretches("b")], [[0, 1], [2]])
        self.assertEqual(self.play.stretches(name="a"), ((self.play.sent[1], self.play.sent[3]),))
        self.assertIs(type(self.play.stretches("b")), tuple)
        self.assertTrue(all(type(stretch) is tuple for stretch in self.play.stretches("b")))
        empty = Play(DUO, arrivals_of("0 b 3"))
        self.assertEqual((empty.comings("a"), empty.stretches("a")), ((), ()))

    def test_what_is_no_name_of_a_flow(self):
        for value in other_values(lambda value: isinstance(value, str) and value in ("a", "b")):
            for work in (self.play.comings, self.play.stretches):
                self.refuses(NoFlow(value), work, value)
            for work in (self.play.ended_at, self.play.delay):
                self.refuses(NoFlow(value), work, value, 0)
                self.refuses(NoFlow(value), work, value, "none")

    def test_what_is_no_number_of_a_packet(self):
        for work in (self.play.ended_at, self.play.delay):
            for value in other_values(lambda value: is_from(value, 0, 2)):
                self.refuses(BadNumber(value), work, "b", value)
            self.refuses(BadNumber(2), work, "a", 2)
            self.refuses(BadNumber(-1), work, "a", -1)
            self.refuses(BadNumber(0), Play(DUO, arrivals_of("0 b 3")).delay, "a", 0)

    def test_equality(self):
        self.assertTrue(self.play == Play(DUO, tuple(self.arrivals)))
        self.assertFalse(self.play != Play(Link(1, B, A), self.arrivals))
        self.assertFalse(self.play == Play(DUO, self.arrivals[:4]))
        self.assertFalse(self.play == Play(Link(2, A, B), self.arrivals))
        self.assertFalse(Play(Link(1, A, B), []) == Play(Link(1, A), []))
        same = Link(1, A, Single("c", 1, 1))
        self.assertFalse(Play(same, arrivals_of("0 a 1, 0 c 1")) == Play(same, arrivals_of("0 c 1, 0 a 1")))
        for value in any_values():
            self.assertIs(self.play == value, False)
            self.assertIs(value == self.play, False)

    def test_what_is_done_to_the_arrivals_later(self):
        rows = arrivals_of("0 b 3, 0 b 3")
        play = Play(DUO, rows)
        rows.append(Arrival(9, "a", 1))
        self.assertEqual(len(play.arrivals), 2)
        self.assertEqual(play.comings("a"), ())
        rows.clear()
        self.assertEqual(play.arrivals, tuple(arrivals_of("0 b 3, 0 b 3")))


class Errors(Case):

    def test_what_is_no_link(self):
        for value in other_values(lambda value: isinstance(value, Link)):
            self.refuses(BadLink("link"), Play, value, [])
            self.refuses(BadLink("link"), Play, value, None)

    def test_what_is_no_list_or_tuple(self):
        for value in other_values(lambda value: isinstance(value, (list, tuple))):
            self.refuses(BadArrivals(None), Play, DUO, value)

    def test_300_and_301_packets(self):
        play = Play(DUO, [Arrival(0, "a", 1)] * 300)
        self.assertEqual((len(play.sent), play.finish), (300, 600))
        self.refuses(TooMany("packets", 300), Play, DUO, [Arrival(0, "a", 1)] * 301)
        self.refuses(TooMany("packets", 300), Play, DUO, (None,) * 301)
        self.refuses(BadArrivals(0), Play, DUO, (None,) * 300)

    def test_long_plays(self):
        play = Play(Link(1000000, Single("b", 1, 60)), [Arrival(10 ** 12, "b", 60)] * 300)
        self.assertEqual(len(play), 18000)
        self.assertEqual(play.finish, 10 ** 12 + 18000 * 1000000 + 18000)

    def test_the_first_item_that_cannot_stand(self):
        good = Arrival(3, "a", 1)
        for value in any_values():
            if not isinstance(value, Arrival):
                self.refuses(BadArrivals(0), Play, DUO, [value])
                self.refuses(BadArrivals(1), Play, DUO, (good, value, None))
            if not is_from(value, 3, 10 ** 12):
                self.refuses(BadArrivals(1), Play, DUO, [good, Arrival(value, "a", 1), None])
            if not (isinstance(value, str) and value in ("a", "b")):
                self.refuses(BadArrivals(1), Play, DUO, [good, Arrival(3, value, 1), None])
            if not (isinstance(value, int) and not isinstance(value, bool) and value == 3):
                self.refuses(BadArrivals(1), Play, DUO, [good, Arrival(3, "b", value), None])

    def test_moments_and_lengths(self):
        self.refuses(BadArrivals(1), Play, DUO, arrivals_of("3 a 1, 2 a 1"))
        self.refuses(BadArrivals(2), Play, DUO, arrivals_of("3 a 1, 4 b 3, 3 a 1"))
        self.refuses(BadArrivals(1), Play, DUO, arrivals_of("0 a 1, 0 b 1"))
        self.refuses(BadArrivals(0), Play, DUO, [Arrival(-1, "a", 1)])
        self.refuses(BadArrivals(0), Play, DUO, [Arrival(10 ** 12 + 1, "a", 1)])
        self.refuses(BadArrivals(0), Play, DUO, [Arrival(Ratio(0), "a", 1)])
        self.refuses(BadArrivals(0), Play, DUO, [Arrival(0, "a", True)])
        self.refuses(BadArrivals(0), Play, DUO, [Arrival(False, "a", 1)])


class Papers(Case):
    FIELDS = {
        Arrival: ["moment", "name", "length"],
        Turn: ["name", "moment", "credit", "lengths", "rest", "is_left"],
        Sent: ["name", "number", "length", "came", "ended", "turn", "bits"],
    }

    def test_any_values_are_kept(self):
        for made, fields in self.FIELDS.items():
            self.keeps_any_values(made, fields)

    def test_equality(self):
        for made, fields in self.FIELDS.items():
            self.compares_as_a_paper(made, fields)

    def test_papers_of_other_classes_are_not_equal(self):
        self.assertFalse(Arrival(0, 0, 0) == Turn(0, 0, 0, 0, 0, 0))
        self.assertFalse(Turn(0, 0, 0, 0, 0, 0) == Sent(0, 0, 0, 0, 0, 0, 0))
        self.assertFalse(Sent(0, 0, 0, 0, 0, 0, 0) == Arrival(0, 0, 0))
