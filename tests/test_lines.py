"""creditturns.lines: lines told by hand, and lines led by many deeds beside one that goes on tick by tick."""

import copy
import random

from creditturns.buckets import Bucket
from creditturns.errors import (BadLink, BadNumber, BadQuantum, CreditError, NoDeed, NoFlow, NoSum, TooMany, Waiting)
from creditturns.flows import FedSingle, Flow, Single, Spread
from creditturns.lengths import Lengths
from creditturns.lines import Line
from creditturns.links import Link
from creditturns.plays import Arrival, Play, Sent, Turn
from creditturns.ratios import Ratio
from tests.helper import Case, any_values, is_from, other_values
from tests.plain import PlainLine, log_of, sent_of

A, B, C = Single("a", 1, 1), Single("b", 2, 3), Flow("c", 4, Lengths(4, 6))
DUO = Link(1, A, B)
LINKS = [DUO, Link(2, A, B, C), Link(3, Spread("s", 3, 1, 5), B), Link(1, Spread("s", 2, 1, 4), Spread("t", 5, 2, 3)),
         Link(2, *[Spread(name, at + 1, 1, 3) for at, name in enumerate("uvwxyz")])]


def is_flow_of_duo(value):
    return isinstance(value, str) and value in ("a", "b")


def is_quantum(value):
    return is_from(value, 1, 1000)


def arrivals_of(line):
    return [(one.moment, one.name, one.length) for one in line.arrivals]


def state_of(line):
    """All that can be seen of a line, told by plain values."""
    rows = [(name, line.waiting(name), line.credit_of(name), name in line, str(line[name])) for name in line.link.names]
    return (str(line.link), line.now, arrivals_of(line), log_of(line.log), sent_of(line.sent), line.order, line.busy,
            len(line), line.deeds, rows)


def add(line, flow):
    line |= flow
    return line


def assign(line, name, quantum):
    line[name] = quantum


class LineCase(Case):

    def look(self, line, plain):
        """The line stands as a plain one does."""
        self.assertEqual({flow.name: flow for flow in line.link}, plain.flows)
        self.assertEqual((line.now, line.order, line.busy), (plain.now, tuple(plain.order), plain.busy()))
        self.assertEqual(arrivals_of(line), plain.arrivals)
        self.assertEqual((log_of(line.log), sent_of(line.sent)), (plain.log, plain.sent))
        self.assertEqual(len(line), len(plain.arrivals) - len(plain.sent))
        for name in plain.flows:
            self.assertEqual(line.waiting(name), tuple(length for _, length, _ in plain.queues[name]))
            self.same(line.credit_of(name), plain.credits[name])
            self.assertIs(name in line, plain.waits(name))
            self.assertEqual(line[name], plain.flows[name])

    def raises_and_changes_nothing(self, error, line, work, *rows):
        kept, twin = state_of(line), line.twin()
        self.refuses(error, work, *rows)
        self.assertEqual(state_of(line), kept)
        self.assertEqual(line, twin)


class ByHand(LineCase):

    def test_a_new_line(self):
        line = Line(link=DUO)
        self.assertIs(type(line.link), Link)
        self.assertEqual((line.link, line.now, line.busy, line.deeds, len(line)), (DUO, 0, None, 0, 0))
        for rows in (line.arrivals, line.log, line.sent, line.order, line.waiting("a")):
            self.assertEqual(rows, ())
            self.assertIs(type(rows), tuple)
        self.assertEqual((line.credit_of("a"), "a" in line, line["b"]), (0, False, B))

    def test_kinds(self):
        line = Line(DUO)
        for number in range(3):
            self.same(line.put("b", 3), number)
        self.same(line.put(length=1, name="a"), 0)
        ended = line.go(ticks=30)
        self.assertIs(type(ended), tuple)
        self.assertTrue(all(type(one) is Sent for one in ended + line.sent))
        self.assertTrue(all(type(one) is Turn for one in line.log))
        self.assertTrue(all(type(one) is Arrival for one in line.arrivals))
        for rows in (line.arrivals, line.log, line.sent, line.order, line.waiting("b")):
            self.assertIs(type(rows), tuple)
        self.same(line.run(), 0)
        self.same(line.now, 30)
        self.same(line.credit_of(name="b"), 0)
        self.assertEqual(line.waiting(name="b"), ())
        self.same(len(line), 0)
        self.same(line.deeds, 6)

    def test_single_ticks_of_a_turn(self):
        line = Line(Link(2, Single("b", 5, 3)))
        line.put("b", 3)
        line.put("b", 3)
        told = []
        for _ in range(10):
            ended = [one.number for one in line.go(1)]
            told.append((line.now, line.busy, line.order, line.credit_of("b"), line.waiting("b"), len(line), ended))
        self.assertEqual(told, [
            (1, "b", (), 0, (3, 3), 2, []), (2, "b", (), 5, (3, 3), 2, []), (3, "b", (), 5, (3, 3), 2, []),
            (4, "b", (), 5, (3, 3), 2, []), (5, None, ("b",), 2, (3,), 1, [0]), (6, "b", (), 2, (3,), 1, []),
            (7, "b", (), 7, (3,), 1, []), (8, "b", (), 7, (3,), 1, []), (9, "b", (), 7, (3,), 1, []),
            (10, None, (), 0, (), 0, [1])])
        self.assertEqual(log_of(line.log), [("b", 0, 0, (3,), 2, False), ("b", 5, 2, (3,), 0, True)])

    def test_ticks_just_to_an_end_and_beyond_it(self):
        for ticks, ended, busy, order in ((4, [], "b", ()), (5, [0], None, ("b",)), (6, [0], "b", ()),
                                          (9, [0], "b", ()), (10, [0, 1], None, ()), (99, [0, 1], None, ())):
            line = Line(Link(2, Single("b", 5, 3)))
            line.put("b", 3)
            line.put("b", 3)
            self.assertEqual([one.number for one in line.go(ticks)], ended)
            self.assertEqual((line.now, line.busy, line.order), (ticks, busy, order))
            self.assertEqual(line.go(0), ())
            self.assertEqual((line.now, line.busy, line.order, line.deeds), (ticks, busy, order, 4))

    def test_no_ticks_begin_no_turn(self):
        line = Line(DUO)
        line.put("b", 3)
        self.assertEqual((line.go(0), line.busy, line.order, line.deeds), ((), None, ("b",), 2))
        line.put("a", 1)
        self.assertEqual(line.order, ("b", "a"))
        self.assertEqual(line.run(), Play(DUO, [Arrival(0, "b", 3), Arrival(0, "a", 1)]).finish)

    def test_a_packet_at_the_moment_at_which_its_flow_leaves(self):
        line = Line(DUO)
        line.put("a", 1)
        self.assertEqual([one.turn for one in line.go(2)], [1])
        self.assertEqual(("a" in line, line.credit_of("a"), line.order), (False, 0, ()))
        self.assertEqual((line.put("a", 1), "a" in line, line.order), (1, True, ("a",)))
        self.assertEqual([(one.turn, one.bits) for one in line.go(2)], [(1, 1)])

    def test_idle_ticks(self):
        line = Line(DUO)
        self.assertEqual((line.go(10 ** 12 - 5), line.now), ((), 10 ** 12 - 5))
        line.put("b", 3)
        self.assertEqual((line.run(), line.now), (5, 10 ** 12))

    def test_run_tells_how_many_ticks(self):
        line = Line(DUO)
        self.assertEqual((line.run(), line.now, line.deeds), (0, 0, 1))
        line.put("b", 3)
        line.go(3)
        self.assertEqual((line.run(), line.now, line.run(), line.deeds), (2, 5, 0, 5))

    def test_each_turn(self):
        line = Line(DUO)
        self.assertEqual(list(line.each_turn()), [])
        self.assertEqual(line.deeds, 0)
        for name, length in (("b", 3), ("a", 1), ("b", 3)):
            line.put(name, length)
        turns, ends = [], []
        for turn in line.each_turn():
            self.assertIs(type(turn), Turn)
            turns.append(turn)
            ends.append((line.now, line.busy, line.deeds))
            self.assertEqual(line.log, tuple(turns))
        self.assertEqual(tuple(turns), Play(DUO, line.arrivals).log)
        self.assertEqual(ends, [(1, None, 4), (3, None, 5), (7, None, 6), (11, None, 7)])

    def test_each_turn_ends_the_turn_that_is_under_way(self):
        line = Line(DUO)
        line.put("b", 3)
        line.go(3)
        self.assertEqual((line.busy, len(line.log)), ("b", 1))
        turn = next(line.each_turn())
        self.assertEqual(log_of([turn]), [("b", 1, 2, (3,), 0, True)])
        self.assertEqual((line.now, line.busy, line.log[-1] == turn), (5, None, True))

    def test_packets_between_the_items_of_each_turn(self):
        line = Line(DUO)
        line.put("b", 3)
        turns = line.each_turn()
        self.assertEqual(line.deeds, 1)
        self.assertEqual(log_of([next(turns)]), [("b", 0, 0, (), 2, False)])
        line.put("a", 1)
        self.assertEqual(log_of([next(turns)]), [("b", 1, 2, (3,), 0, True)])
        line.put("b", 3)
        self.assertEqual(line.order, ("a", "b"))
        self.assertEqual(log_of([next(turns)]), [("a", 5, 0, (1,), 0, True)])
        line.go(3)
        self.assertEqual((line.now, line.busy, len(line.log)), (10, "b", 4))
        self.assertEqual(line.undo(), "go")
        line["b"] = 3
        self.assertEqual(log_of([next(turns)]), [("b", 7, 0, (3,), 0, True)])
        self.assertEqual([line.undo() for _ in range(3)], ["turn", "quantum", "turn"])
        self.assertEqual(log_of([next(turns)]), [("a", 5, 0, (1,), 0, True)])
        line.run()
        with self.assertRaises(StopIteration):
            next(turns)
        self.assertEqual(line.undo(), "run")

    def test_numbers_go_on_for_a_name(self):
        line = Line(DUO)
        self.assertEqual([line.put("a", 1), line.put("a", 1), line.put("b", 3)], [0, 1, 0])
        line.run()
        self.assertEqual(line.leave("a"), A)
        line |= Single("a", 7, 5)
        self.assertEqual([line.put("a", 5), line.put("b", 3)], [2, 1])
        line.run()
        line |= Single("a", 1, 2)
        self.assertEqual(line.put("a", 2), 3)
        line |= C
        self.assertEqual(line.put("c", 6), 0)
        line.run()
        self.assertEqual([one.number for one in line.sent if one.name == "a"], [0, 1, 2, 3])
        self.assertEqual([one.length for one in line.sent if one.name == "a"], [1, 1, 5, 2])

    def test_a_quantum_counts_from_the_next_turn_on(self):
        first, second, third = (0, ()), (2, (3,)), (1, (3,))
        for ticks, turns in ((0, [(0, (3, 3)), (0, (3,))]), (1, [first, (2, (3, 3)), (2, (3,))]),
                             (2, [first, (2, (3, 3)), (2, (3,))]), (3, [first, second, (1, (3, 3))]),
                             (4, [first, second, (1, (3, 3))]), (7, [first, second, (1, (3, 3))]),
                             (8, [first, second, third, (0, (3,))])):
            line = Line(Link(2, Single("b", 2, 3)))
            for _ in range(3):
                line.put("b", 3)
            line.go(ticks)
            line.set_quantum("b", 6)
            self.assertEqual((line["b"].quantum, line.link["b"].quantum), (6, 6))
            line.run()
            self.assertEqual([(turn.credit, turn.lengths) for turn in line.log], turns)

    def test_a_quantum_keeps_the_class_and_the_bucket(self):
        line = Line(Link(1, FedSingle("a", 1, 1, Bucket(2, 1, 6))))
        line["a"] = 4
        self.assertIs(type(line["a"]), FedSingle)
        self.assertEqual((line["a"].bucket, line["a"].quantum), (Bucket(2, 1, 6), 4))
        self.assertIsNone(line.set_quantum(quantum=5, name="a"))
        self.assertEqual(line.link, Link(1, FedSingle("a", 5, 1, Bucket(2, 1, 6))))

    def test_flows_come_and_go(self):
        line = Line(Link(1))
        same = line
        line |= B
        self.assertIs(line, same)
        self.assertEqual(line.link, Link(1, B))
        line |= A
        line |= Single("b", 5, 4)
        self.assertEqual(line.link, Link(1, A, Single("b", 5, 4)))
        self.refuses(BadNumber(3), line.put, "b", 3)
        line.put("b", 4)
        self.assertEqual(line.leave(name="a"), A)
        self.assertEqual(line.link, Link(1, Single("b", 5, 4)))
        self.refuses(NoFlow("a"), line.put, "a", 1)
        self.refuses(NoFlow("a"), line.waiting, "a")
        self.refuses(NoFlow("a"), line.credit_of, "a")
        self.assertIs("a" in line, False)
        line.run()
        self.assertEqual(line.leave("b"), Single("b", 5, 4))
        self.assertEqual((line.link, len(line.log), line.arrivals), (Link(1), 1, (Arrival(0, "b", 4),)))

    def test_the_link_that_a_line_was_made_of_stays(self):
        link = Link(1, A, B)
        line = Line(link)
        line["a"] = 9
        line |= C
        line.leave("b")
        self.assertEqual((link, line.link), (DUO, Link(1, A.with_quantum(9), C)))

    def test_a_long_line(self):
        line = Line(Link(1, Single("b", 1, 60)))
        for _ in range(300):
            line.put("b", 60)
        self.assertEqual(line.run(), 36000)
        self.assertEqual((len(line.log), line.undo(), len(line.log)), (18000, "run", 0))
        self.assertEqual(len([turn for turn in line.each_turn()]), 18000)
        self.assertEqual(line.deeds, 18300)
        twin = line.twin()
        self.assertEqual([line.undo() for _ in range(18300)], ["turn"] * 18000 + ["put"] * 300)
        self.assertEqual((line, len(twin.log)), (Line(Link(1, Single("b", 1, 60))), 18000))


class BesidePlays(LineCase):

    def arrivals(self, told, link):
        moments = sorted(told.randrange(told.choice((5, 60, 200))) for _ in range(told.randrange(1, 25)))
        flows = [link[told.choice(link.names)] for _ in moments]
        return [Arrival(moment, flow.name, told.choice(flow.lengths.numbers)) for moment, flow in zip(moments, flows)]

    def lead(self, line, arrivals, parts):
        ended = ()
        for one in arrivals:
            while line.now < one.moment:
                ended += line.go(min(parts(), one.moment - line.now))
            line.put(one.name, one.length)
        return ended

    def test_however_the_ticks_are_parted(self):
        told = random.Random(11)
        for link in LINKS:
            for _ in range(25):
                arrivals = self.arrivals(told, link)
                play = Play(link, arrivals)
                for parts in (lambda: 1, lambda: 10 ** 6, lambda: told.randrange(4), lambda: told.randrange(1, 30)):
                    line = Line(link)
                    ended = self.lead(line, arrivals, parts)
                    begin = line.now
                    way = told.randrange(3)
                    if way == 0:
                        self.assertEqual(line.run() + begin, max(play.finish, begin))
                    elif way == 1:
                        list(line.each_turn())
                    while way == 2 and len(line):
                        ended += line.go(parts())
                    self.assertEqual((line.log, line.sent, line.arrivals), (play.log, play.sent, play.arrivals))
                    self.assertEqual(line.now, play.finish if way < 2 else line.now)
                    if way == 2:
                        self.assertEqual(ended, play.sent)
                    self.assertEqual((line.order, line.busy, len(line)), ((), None, 0))


class BesideAPlainLine(LineCase):
    """Many deeds in a row, and the whole line looked at behind each of them."""

    def test_many_deeds(self):
        for seed in range(60):
            self.told = random.Random(seed)
            self.line = Line(LINKS[seed % len(LINKS)])
            self.plain = PlainLine(self.line.link)
            self.past = []
            for _ in range(60):
                self.told.choice((self.put, self.put, self.put, self.go, self.go, self.run_on, self.turn, self.quantum,
                                  self.flow, self.leave, self.undo, self.trial))()
                self.look(self.line, self.plain)
                self.same(self.line.deeds, len(self.past))

    def keep(self, word):
        self.past.append((word, copy.deepcopy(self.plain)))

    def any_name(self):
        return self.told.choice(self.line.link.names) if len(self.line.link) else None

    def put(self):
        name = self.any_name()
        if name:
            length = self.told.choice(self.line[name].lengths.numbers)
            self.keep("put")
            self.same(self.line.put(name, length), self.plain.put(name, length))

    def go(self):
        ticks = self.told.choice((0, 1, 1, 2, 3, 5, 9, 30))
        self.keep("go")
        ahead = len(self.plain.sent)
        for _ in range(ticks):
            self.plain.tick()
        self.assertEqual(sent_of(self.line.go(ticks)), self.plain.sent[ahead:])

    def run_on(self):
        if self.told.randrange(3) == 0:
            self.keep("run")
            begin = self.plain.now
            while self.plain.order or self.plain.turn:
                self.plain.tick()
            self.same(self.line.run(), self.plain.now - begin)

    def turn(self):
        turn = next(self.line.each_turn(), None)
        if turn is None:
            self.assertFalse(self.plain.order or self.plain.turn)
            return
        self.keep("turn")
        ahead = len(self.plain.log)
        while len(self.plain.log) == ahead:
            self.plain.tick()
        self.assertEqual(log_of([turn]), self.plain.log[-1:])

    def quantum(self):
        name = self.any_name()
        if name:
            quantum = self.told.randrange(1, 8)
            self.keep("quantum")
            (assign if self.told.randrange(2) else Line.set_quantum)(self.line, name, quantum)
            self.plain.set_flow(self.plain.flows[name].with_quantum(quantum))

    def flow(self):
        flow = Spread(self.told.choice("abcdstuvwxyz"), self.told.randrange(1, 6), 1, self.told.randrange(1, 6))
        if self.plain.waits(flow.name):
            self.raises_and_changes_nothing(Waiting(flow.name), self.line, add, self.line, flow)
        elif len(self.plain.flows) == 6 and flow.name not in self.plain.flows:
            self.raises_and_changes_nothing(TooMany("flows", 6), self.line, add, self.line, flow)
        else:
            self.keep("flow")
            self.line |= flow
            self.plain.set_flow(flow)

    def leave(self):
        name = self.any_name()
        if name and self.plain.waits(name):
            self.raises_and_changes_nothing(Waiting(name), self.line, self.line.leave, name)
        elif name:
            self.keep("leave")
            self.assertEqual(self.line.leave(name), self.plain.leave(name))

    def undo(self):
        if not self.past:
            self.raises_and_changes_nothing(NoDeed(), self.line, self.line.undo)
            return
        word, plain = self.past.pop()
        # What is kept is not led on itself: behind a trial it is kept still.
        self.plain = copy.deepcopy(plain)
        self.same(self.line.undo(), word)

    def trial(self):
        past, plain = list(self.past), copy.deepcopy(self.plain)
        with self.line.trial() as same:
            self.assertIs(same, self.line)
            for _ in range(4):
                self.told.choice((self.put, self.go, self.turn, self.undo, self.undo, self.quantum))()
                self.look(self.line, self.plain)
        self.past, self.plain = past, plain


class Errors(LineCase):

    def lines(self):
        """A line in which b waits and a does not, at several moments."""
        for ticks in (0, 1, 3):
            line = Line(DUO)
            line.put("b", 3)
            line.put("b", 3)
            line.go(ticks)
            yield line

    def test_what_is_no_link(self):
        for value in other_values(lambda value: isinstance(value, Link)):
            self.refuses(BadLink("link"), Line, value)

    def test_what_is_no_name_of_a_flow(self):
        for line in self.lines():
            for value in other_values(is_flow_of_duo):
                for work in (line.waiting, line.credit_of, line.leave, lambda name: line[name]):
                    self.raises_and_changes_nothing(NoFlow(value), line, work, value)
                for other in (1, 3, None, value):
                    self.raises_and_changes_nothing(NoFlow(value), line, line.put, value, other)
                    self.raises_and_changes_nothing(NoFlow(value), line, line.set_quantum, value, other)
                    self.raises_and_changes_nothing(NoFlow(value), line, assign, line, value, other)

    def test_names_of_any_values(self):
        for line in self.lines():
            for value in any_values():
                self.assertIs(value in line, isinstance(value, str) and value == "b")

    def test_what_is_no_length_of_the_flow(self):
        for line in self.lines():
            for value in any_values():
                for name, length in (("a", 1), ("b", 3)):
                    if not is_from(value, length, length):
                        self.raises_and_changes_nothing(BadNumber(value), line, line.put, name, value)
            self.raises_and_changes_nothing(BadNumber(Ratio(3)), line, line.put, "b", Ratio(3))

    def test_300_and_301_packets(self):
        line = Line(DUO)
        for number in range(300):
            self.assertEqual(line.put("a", 1), number)
            if number == 200:
                line.run()
                line |= C
        self.assertEqual(len(line.arrivals), 300)
        for name, length in (("a", 1), ("b", 3), ("c", 6)):
            self.raises_and_changes_nothing(TooMany("packets", 300), line, line.put, name, length)
        self.raises_and_changes_nothing(BadNumber(2), line, line.put, "a", 2)
        self.raises_and_changes_nothing(NoFlow("x"), line, line.put, "x", 2)
        line.run()
        self.raises_and_changes_nothing(TooMany("packets", 300), line, line.put, "a", 1)
        self.assertEqual([line.undo(), line.undo(), line.put("a", 1), line.run()], ["run", "put", 299, 198])

    def test_what_are_no_ticks(self):
        for line in self.lines():
            for value in other_values(lambda value: is_from(value, 0, 10 ** 100)):
                self.raises_and_changes_nothing(BadNumber(value), line, line.go, value)

    def test_moments_beyond_the_last_one(self):
        line = Line(DUO)
        for ticks in (10 ** 12 + 1, 10 ** 60):
            self.raises_and_changes_nothing(TooMany("ticks", 10 ** 12), line, line.go, ticks)
        line.go(10 ** 12)
        self.assertEqual((line.now, line.go(0), line.run(), line.deeds), (10 ** 12, (), 0, 3))
        self.raises_and_changes_nothing(TooMany("ticks", 10 ** 12), line, line.go, 1)
        self.assertEqual(list(line.each_turn()), [])
        line.put("a", 1)
        self.raises_and_changes_nothing(TooMany("ticks", 10 ** 12), line, line.run)
        self.raises_and_changes_nothing(TooMany("ticks", 10 ** 12), line, next, line.each_turn())
        self.assertEqual(line.go(0), ())

    def test_the_last_turn_ends_just_at_the_last_moment_or_beyond_it(self):
        for early, is_let in ((13, True), (12, False), (5, False), (14, True)):
            for way in ("run", "turn"):
                line = Line(DUO)
                line.go(10 ** 12 - early)
                for name, length in (("b", 3), ("a", 1), ("b", 3), ("a", 1)):
                    line.put(name, length)
                if way == "run" and is_let:
                    self.assertEqual((line.run(), line.deeds), (13, 6))
                elif way == "run":
                    self.raises_and_changes_nothing(TooMany("ticks", 10 ** 12), line, line.run)
                else:
                    turns = line.each_turn()
                    while len(line.log) < (5 if is_let else 4 if early == 12 else 2):
                        next(turns)
                    if not is_let:
                        self.raises_and_changes_nothing(TooMany("ticks", 10 ** 12), line, next, turns)

    def test_what_is_no_quantum(self):
        for line in self.lines():
            for value in other_values(is_quantum):
                for name in ("a", "b"):
                    self.raises_and_changes_nothing(BadQuantum(value), line, line.set_quantum, name, value)
                    self.raises_and_changes_nothing(BadQuantum(value), line, assign, line, name, value)
            line["a"] = 1000
            line["b"] = 1
            self.assertEqual((line["a"].quantum, line["b"].quantum), (1000, 1))

    def test_what_is_no_flow(self):
        for line in self.lines():
            for value in other_values(lambda value: isinstance(value, Flow)):
                self.raises_and_changes_nothing(BadLink("flow"), line, add, line, value)

    def test_a_flow_that_waits(self):
        for line in self.lines():
            for flow in (B, Single("b", 9, 9)):
                self.raises_and_changes_nothing(Waiting("b"), line, add, line, flow)
            self.raises_and_changes_nothing(Waiting("b"), line, line.leave, "b")
            line |= Single("a", 5, 5)
            self.assertEqual(line["a"], Single("a", 5, 5))
            self.assertEqual(line.leave("a"), Single("a", 5, 5))
            line.run()
            line |= Single("b", 9, 9)
            self.assertEqual(line.leave("b"), Single("b", 9, 9))

    def test_six_and_seven_flows(self):
        line = Line(LINKS[-1])
        line.put("u", 1)
        self.raises_and_changes_nothing(TooMany("flows", 6), line, add, line, A)
        self.raises_and_changes_nothing(Waiting("u"), line, add, line, Single("u", 1, 1))
        line |= Single("v", 1, 1)
        line.leave("w")
        line |= A
        self.assertEqual(line.link.names, ("a", "u", "v", "x", "y", "z"))

    def test_iteration(self):
        for line in self.lines():
            for work in (iter, list, tuple, sorted, set, enumerate, lambda rows: [one for one in rows]):
                with self.assertRaises(TypeError):
                    work(line)
            with self.assertRaises(TypeError):
                _, _ = line


class Deeds(LineCase):

    def test_words(self):
        line = Line(DUO)
        states = []

        def done(work, *rows):
            states.append((state_of(line), line.twin()))
            work(*rows)

        done(line.put, "b", 3)
        done(line.go, 0)
        done(line.go, 2)
        done(line.put, "a", 1)
        done(next, line.each_turn())
        done(line.set_quantum, "b", 2)
        done(assign, line, "b", 7)
        done(line.run)
        done(line.run)
        done(add, line, A)
        done(add, line, C)
        done(line.leave, "a")
        self.assertEqual(line.deeds, 12)
        words = ["put", "go", "go", "put", "turn", "quantum", "quantum", "run", "run", "flow", "flow", "leave"]
        for word in reversed(words):
            self.same(line.undo(), word)
            state, twin = states.pop()
            self.assertEqual(state_of(line), state)
            self.assertEqual(line, twin)
        self.raises_and_changes_nothing(NoDeed(), line, line.undo)
        self.assertEqual(line, Line(DUO))

    def test_what_raises_is_no_deed(self):
        line = Line(DUO)
        for work in (lambda: line.put("b", 1), lambda: line.go(-1), lambda: line.leave("x"), lambda: line.undo(),
                     lambda: assign(line, "a", 0), lambda: add(line, None)):
            with self.assertRaises(CreditError):
                work()
        self.assertEqual(line.deeds, 0)

    def test_other_ways_behind_what_is_taken_back(self):
        line = Line(DUO)
        line.put("b", 3)
        line.run()
        log = line.log
        line.undo()
        line.put("a", 1)
        line.run()
        self.assertEqual(line.log, Play(DUO, [Arrival(0, "b", 3), Arrival(0, "a", 1)]).log)
        self.assertEqual([line.undo(), line.undo(), line.run()], ["run", "put", 5])
        self.assertEqual(line.log, log)


class OwnError(Exception):
    pass


class Trials(LineCase):

    def line(self):
        line = Line(DUO)
        line.put("b", 3)
        line.go(3)
        line.put("a", 1)
        return line

    def deeds(self, line):
        line.run()
        line.put("b", 3)
        line["a"] = 5
        line.run()
        line |= C
        line.leave("a")
        for _ in range(9):
            line.undo()

    def unchanged(self, line):
        self.assertEqual(line, self.line())
        self.assertEqual(state_of(line), state_of(self.line()))
        self.assertEqual([line.undo(), line.undo(), line.undo()], ["put", "go", "put"])
        self.refuses(NoDeed(), line.undo)

    def test_trial(self):
        line = self.line()
        with line.trial() as same:
            self.assertIs(same, line)
            self.assertEqual(line.deeds, 3)
            self.deeds(line)
            self.assertEqual((line.now, line.deeds), (0, 0))
        self.unchanged(line)

    def test_a_trial_begins_with_its_block(self):
        line = self.line()
        trial = line.trial()
        line.undo()
        with trial:
            line.run()
        self.assertEqual((line.deeds, line.now, line.waiting("a")), (2, 3, ()))

    def test_errors_go_on(self):
        for error in (NoSum(3), OwnError(), ValueError(), KeyboardInterrupt()):
            line = self.line()
            with self.assertRaises(type(error)) as caught:
                with line.trial():
                    self.deeds(line)
                    raise error
            self.assertIs(caught.exception, error)
            self.unchanged(line)
        line = self.line()
        with self.assertRaises(Waiting):
            with line.trial() as same:
                same.run()
                same.put("a", 1)
                same.leave("a")
        self.unchanged(line)

    def test_nested_trials(self):
        line = self.line()
        with line.trial():
            line.run()
            line.put("b", 3)
            kept = state_of(line)
            with line.trial():
                self.deeds(line)
            self.assertEqual(state_of(line), kept)
            with self.assertRaises(OwnError):
                with line.trial(), line.trial():
                    line.undo()
                    raise OwnError()
            self.assertEqual(state_of(line), kept)
            self.assertEqual([line.undo(), line.undo()], ["put", "run"])
        self.unchanged(line)

    def test_each_turn_beside_trials(self):
        line = self.line()
        turns = line.each_turn()
        with line.trial():
            first = next(turns)
        self.assertEqual(next(turns), first)
        self.assertEqual(line.deeds, 4)

    def test_tried(self):
        line = self.line()
        told = object()
        self.assertEqual(line.tried(lambda same: (same is line, same.run(), same.now)), (True, 4, 7))
        self.assertIs(line.tried(work=lambda same: told), told)
        self.assertIsNone(line.tried(self.deeds))
        for error in (NoSum(3), OwnError()):
            with self.assertRaises(type(error)) as caught:
                line.tried(lambda same: self.deeds(same) or self.fail_with(error))
            self.assertIs(caught.exception, error)
        self.assertEqual(line.tried(lambda same: (same.run(), same.tried(self.deeds), same.now)), (4, None, 7))
        self.unchanged(line)

    def fail_with(self, error):
        raise error

    def test_attempt_that_is_done(self):
        line = self.line()
        told = object()
        self.assertIs(line.attempt(work=lambda same: told), told)
        self.assertEqual(line.attempt(lambda same: (same is line, same.run(), same.put("b", 3))), (True, 4, 1))
        self.assertEqual((line.now, line.deeds, line.waiting("b")), (7, 5, (3,)))
        self.assertEqual([line.undo() for _ in range(5)], ["put", "run", "put", "go", "put"])

    def test_attempt_that_an_error_leaves(self):
        for error in (NoSum(3), OwnError(), KeyboardInterrupt()):
            line = self.line()
            with self.assertRaises(type(error)) as caught:
                line.attempt(lambda same: self.deeds(same) or self.fail_with(error))
            self.assertIs(caught.exception, error)
            self.unchanged(line)
        line = self.line()
        self.refuses(Waiting("b"), line.attempt, lambda same: (same.run(), same.put("b", 3), same.leave("b")))
        self.unchanged(line)

    def test_attempts_and_trials_in_each_other(self):
        line = self.line()
        line.attempt(lambda same: same.tried(self.deeds))
        line.tried(lambda same: same.attempt(self.deeds))
        self.assertEqual(line.deeds, 3)

        def outer(same):
            same.run()
            self.refuses(NoFlow("x"), same.attempt, lambda one: (one.undo(), one.undo(), one.leave("x")))
            return same.now

        self.assertEqual(line.attempt(outer), 7)
        self.assertEqual((line.now, line.deeds, line.undo()), (7, 4, "run"))
        self.unchanged(line)


class TwinsAndEquality(LineCase):

    def test_twins_go_their_own_way(self):
        line = Line(DUO)
        line.put("b", 3)
        line.go(1)
        twin = line.twin()
        self.assertIs(type(twin), Line)
        self.assertTrue(twin == line)
        self.assertEqual((twin.deeds, line.deeds), (0, 2))
        self.refuses(NoDeed(), twin.undo)
        twin.put("a", 1)
        line.put("b", 3)
        self.assertEqual((twin.waiting("b"), line.waiting("b")), ((3,), (3, 3)))
        self.assertEqual((twin.run(), line.run()), (6, 8))
        self.assertEqual(log_of(twin.log)[1:], [("b", 1, 2, (3,), 0, True), ("a", 5, 0, (1,), 0, True)])
        self.assertEqual(log_of(line.log)[1:], [("b", 1, 2, (3,), 1, False), ("b", 5, 1, (3,), 0, True)])
        self.assertEqual([twin.undo(), twin.undo(), twin.deeds], ["run", "put", 0])
        self.assertEqual([line.undo(), line.undo()], ["run", "put"])
        self.assertTrue(twin == line)

    def test_deeds_play_no_part(self):
        one, other = Line(DUO), Line(Link(1, B, A))
        one.go(0)
        one.put("b", 3)
        one.undo()
        self.assertTrue(one == other)
        for ticks in (1, 2, 3):
            one.go(ticks)
        other.go(6)
        self.assertIs(one == other, True)
        self.assertIs(one != other, False)

    def test_each_part_counts(self):
        def line(*works):
            made = Line(DUO)
            for work in works:
                work(made)
            return made

        def put(name, length):
            return lambda made: made.put(name, length)

        def go(ticks):
            return lambda made: made.go(ticks)

        def quantum(name, number):
            return lambda made: made.set_quantum(name, number)

        rows = [
            line(), line(go(1)), line(put("a", 1)), line(put("b", 3)), line(put("a", 1), put("b", 3)),
            line(put("b", 3), put("a", 1)), line(put("b", 3), go(1)), line(put("b", 3), go(2)), line(quantum("a", 2)),
            line(put("b", 3), go(6)), line(put("b", 3), go(1), quantum("b", 3)), line(put("a", 1), go(6)),
            line(lambda made: add(made, C)), line(lambda made: made.leave("a")), line(go(1), put("b", 3)),
            line(put("b", 3), put("b", 3)), line(put("b", 3), put("b", 3), go(1)), Line(Link(2, A, B)),
        ]
        for at, one in enumerate(rows):
            for place, other in enumerate(rows):
                self.assertIs(one == other, at == place)
                self.assertIs(one != other, at != place)

    def test_the_quantum_of_the_turn_under_way_counts(self):
        link = Link(4, A, B)
        one, other = Line(link), Line(link)
        for line in (one, other):
            line.put("b", 3)
        other["b"] = 3
        for line in (one, other):
            line.go(2)
        other["b"] = 2
        self.assertEqual(state_of(one)[:-2], state_of(other)[:-2])
        self.assertFalse(one == other)
        one.go(2)
        other.go(2)
        self.assertEqual((one.credit_of("b"), other.credit_of("b")), (2, 3))

    def test_flows_that_came_and_went_play_no_part(self):
        one, other = Line(DUO), Line(DUO)
        one |= C
        one.leave("c")
        self.assertTrue(one == other)
        one.put("b", 3)
        other.put("b", 3)
        self.assertTrue(one == other)

    def test_no_other_value_is_equal(self):
        line = Line(Link(7))
        for value in any_values():
            self.assertIs(line == value, False)
            self.assertIs(value == line, False)
