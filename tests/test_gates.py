"""creditturns.gates: promises, and gates deed by deed beside a plain dict of flows and a list of promises."""

import random

from creditturns.errors import (BadFlow, BadGap, BadName, BadPromise, BadQuantum, BadText, Broken, CreditError, Known, Late,
                                NoDeed, NoFlow, NoSum, TooMany)
from creditturns.flows import Flow, FedSingle, Single, Spread
from creditturns.buckets import Bucket
from creditturns.gates import Gate, Promise
from creditturns.lengths import Lengths
from creditturns.links import Link
from creditturns.waits import latest
from tests.drawn import drawn_flow
from tests.helper import Case, any_values, is_from, is_name, other_values

A, B = Single("a", 1, 1), Single("b", 2, 3)
MOST = 10 ** 60


def made(*promises):
    """The gate of the document's example with some promises."""
    gate = Gate(1)
    gate.let_in(B)
    gate.let_in(A, *promises)
    return gate


def rows_of(promises):
    return [(one.name, one.bits, one.ticks) for one in promises]


def state_of(gate):
    return str(gate.link), rows_of(gate.promises), gate.deeds


class Promises(Case):

    def test_attributes(self):
        for row in (("a", 1, 0), ("abcdefgh", MOST, MOST), ("z", 7, 12)):
            for one in (Promise(*row), Promise(**dict(zip(("name", "bits", "ticks"), row)))):
                for value, right in zip((one.name, one.bits, one.ticks), row):
                    self.assertIs(type(value), type(right))
                    self.assertEqual(value, right)

    def test_wrong_ones_in_their_order(self):
        for value in other_values(is_name):
            self.refuses(BadPromise("name"), Promise, value, 1, 1)
            self.refuses(BadPromise("name"), Promise, value, value, value)
        for value in other_values(lambda value: is_from(value, 1, MOST)):
            self.refuses(BadPromise("bits"), Promise, "a", value, 1)
            self.refuses(BadPromise("bits"), Promise, "a", value, None)
        for value in other_values(lambda value: is_from(value, 0, MOST)):
            self.refuses(BadPromise("ticks"), Promise, "a", 1, value)

    def test_bounds(self):
        self.refuses(BadPromise("bits"), Promise, "a", 0, 1)
        self.refuses(BadPromise("bits"), Promise, "a", MOST + 1, 1)
        self.refuses(BadPromise("ticks"), Promise, "a", 1, -1)
        self.refuses(BadPromise("ticks"), Promise, "a", 1, MOST + 1)

    def test_equal(self):
        one = Promise("a", 2, 12)
        self.assertIs(one == Promise("a", 2, 12), True)
        self.assertIs(one != Promise("a", 2, 12), False)
        for other in (Promise("b", 2, 12), Promise("a", 3, 12), Promise("a", 2, 13), *any_values()):
            self.assertIs(one == other, False)
            self.assertIs(other == one, False)
            self.assertIs(one != other, True)

    def test_at_most(self):
        one = Promise("a", 2, 12)
        for other, is_at_most in ((Promise("a", 2, 12), True), (Promise("a", 2, 13), True), (Promise("a", 2, 11), False),
                                  (Promise("a", 3, 13), False), (Promise("a", 1, 12), False), (Promise("b", 2, 12), False)):
            self.assertIs(one <= other, is_at_most)
        for value in other_values(lambda value: isinstance(value, Promise)):
            self.refuses(BadPromise("promise"), lambda value: one <= value, value)

    def test_texts(self):
        for row in (("a", 1, 0), ("abcdefgh", MOST, MOST), ("z", 7, 12)):
            text = " ".join(str(part) for part in row)
            self.assertEqual(str(Promise(*row)), text)
            for one in (Promise.read(text), Promise.read(text=text)):
                self.assertIs(type(one), Promise)
                self.assertEqual(one, Promise(*row))

    def test_texts_that_are_none(self):
        for value in other_values(lambda value: isinstance(value, str)):
            self.refuses(BadText(0, 0), Promise.read, value)
        for text, word in (("", 0), (" ", 0), ("a", 1), ("a ", 1), ("a 1", 2), ("a 1 ", 2), ("a 1 2 ", 3), ("a 1 2 3", 3),
                           ("A 1 2", 0), ("a1 1 2", 0), ("abcdefghi 1 2", 0), (" a 1 2", 0), ("a  1 2", 1), ("a 0 2", 1),
                           ("a 01 2", 1), ("a +1 2", 1), ("a -1 2", 1), ("a 1 -2", 2), ("a 1 02", 2), ("a 1 2\n", 2),
                           ("a x y", 1), ("a 1 y", 2), ("a\n1 2", 0), (f"a {MOST + 1} 1", 1), (f"a 1 {MOST + 1}", 2),
                           ("a 1_0 2", 1), ("a 1 \u0663", 2), ("1 a 2", 0), ("a " + "9" * 4000, 1), ("a 1; 2", 1)):
            self.refuses(BadText(0, word), Promise.read, text)


class Gates(Case):

    def test_a_new_gate(self):
        for gap in (1, 7, 1000000):
            for gate in (Gate(gap), Gate(gap=gap)):
                self.assertEqual(gate.link, Link(gap))
                self.same(gate.gap, gap)
                self.same(gate.promises, ())
                self.assertEqual((len(gate), gate.deeds, "a" in gate), (0, 0, False))

    def test_wrong_gaps(self):
        for value in other_values(lambda value: is_from(value, 1, 1000000)):
            self.refuses(BadGap(value), Gate, value)
            gate = made(Promise("a", 2, 12))
            ahead = state_of(gate)
            self.refuses(BadGap(value), gate.set_gap, value)
            self.refuses(BadGap(value), setattr, gate, "gap", value)
            self.assertEqual(state_of(gate), ahead)

    def test_flows_are_let_in(self):
        gate = made(Promise("b", 6, 99), Promise("a", 3, 99), Promise("a", 2, 50), Promise("a", 2, 12), Promise("a", 2, 50))
        self.assertEqual(gate.link, Link(1, A, B))
        self.assertIs(type(gate.link), Link)
        self.assertIs(type(gate.promises), tuple)
        self.assertEqual(rows_of(gate.promises), [("a", 2, 12), ("a", 2, 50), ("a", 3, 99), ("b", 6, 99)])
        self.assertEqual((len(gate), gate.deeds), (2, 2))
        self.assertIs(Gate(1).let_in(A), None)
        self.assertIs(Gate(1).let_in(A, Promise("a", 1, 2)), None)
        for value in any_values():
            self.assertIs(value in gate, isinstance(value, str) and value in ("a", "b"))

    def test_items(self):
        fed = FedSingle("c", 3, 1, Bucket(9, 1, 99))
        gate = made()
        gate.let_in(fed)
        self.assertIs(type(gate["c"]), FedSingle)
        self.assertEqual(gate["a"], A)
        gate["c"] = 4
        self.assertIs(type(gate["c"]), FedSingle)
        self.assertEqual(gate["c"], fed.with_quantum(4))
        self.assertIs(gate.set_quantum("c", 5), None)
        self.assertIs(gate.set_quantum(quantum=6, name="c"), None)
        self.assertEqual([gate["c"].quantum, gate.deeds], [6, 6])
        for value in other_values(lambda value: isinstance(value, str) and value in ("a", "b", "c")):
            self.refuses(NoFlow(value), lambda: gate[value])
            for quantum in (1, 0, None):
                self.refuses(NoFlow(value), gate.set_quantum, value, quantum)
                self.refuses(NoFlow(value), gate.__setitem__, value, quantum)
        for value in other_values(lambda value: is_from(value, 1, 1000)):
            self.refuses(BadQuantum(value), gate.set_quantum, "a", value)
            self.refuses(BadQuantum(value), gate.__setitem__, "a", value)
        self.assertEqual([gate["a"], gate.deeds], [A, 6])

    def test_gates_cannot_be_iterated_over(self):
        for gate in (Gate(1), made()):
            self.assertRaises(TypeError, iter, gate)
            self.assertRaises(TypeError, lambda: [one for one in gate])

    def test_gaps(self):
        gate = made(Promise("a", 1, 20))
        gate.gap = 2
        self.assertEqual([gate.gap, gate.link, gate.deeds], [2, Link(2, A, B), 3])
        self.assertIs(gate.set_gap(8), None)
        self.assertIs(gate.set_gap(gap=7), None)
        caught = self.refuses(Broken(Promise("a", 1, 20)), gate.set_gap, 9)
        self.assertEqual((type(caught.__cause__), vars(caught.__cause__)), (Late, {"ticks": 1 + 3 + 18}))
        self.refuses(Broken(Promise("a", 1, 20)), setattr, gate, "gap", 9)
        self.assertEqual([gate.gap, gate.deeds, gate.undo(), gate.gap], [7, 5, "gap", 8])

    def test_promises_are_given_and_released(self):
        gate = made()
        for _ in range(2):
            self.assertIs(gate.give(Promise("a", 2, 12)), None)
        self.assertIs(gate.give(promise=Promise("a", 1, 7)), None)
        self.assertEqual((rows_of(gate.promises), gate.deeds), ([("a", 1, 7), ("a", 2, 12)], 5))
        self.assertIs(gate.release(promise=Promise("a", 2, 12)), None)
        self.assertEqual((rows_of(gate.promises), gate.deeds), ([("a", 1, 7)], 6))
        for promise in (Promise("a", 2, 12), Promise("a", 1, 8), Promise("x", 1, 7), Promise("b", 1, 7)):
            self.refuses(BadPromise("unknown"), gate.release, promise)
        for value in other_values(lambda value: isinstance(value, Promise)):
            for work in (gate.give, gate.release, gate.spare):
                self.refuses(BadPromise("promise"), work, value)
        for work in (gate.give, gate.spare):
            self.refuses(NoFlow("x"), work, Promise("x", 1, 7))
            self.refuses(NoSum(4), work, Promise("b", 4, 7))
        self.assertEqual((rows_of(gate.promises), gate.deeds), ([("a", 1, 7)], 6))

    def test_a_promise_that_does_not_hold(self):
        gate = made(Promise("a", 1, 9))
        for promise in (Promise("a", 2, 11), Promise("a", 2, 0)):
            caught = self.refuses(Broken(promise), gate.give, promise)
            self.assertIs(caught.promise, promise)
            self.assertEqual((type(caught.__cause__), vars(caught.__cause__)), (Late, {"ticks": 12}))
        self.assertEqual(state_of(gate), ("gap 1; a 1 : 1; b 2 : 3", [("a", 1, 9)], 2))

    def test_spare(self):
        gate = made(Promise("a", 2, 12))
        for promise, spare in ((Promise("a", 2, 12), 0), (Promise("a", 2, 11), -1), (Promise("b", 3, 8), -1),
                               (Promise("b", 3, 0), -9), (Promise("a", 4, 100), 79), (Promise("a", 1, MOST), MOST - 6)):
            self.same(gate.spare(promise), spare)
            self.same(gate.spare(promise=promise), spare)
        self.assertEqual(gate.deeds, 2)

    def test_flows_leave_with_their_promises(self):
        gate = made(Promise("b", 6, 99), Promise("a", 3, 99), Promise("a", 2, 50))
        self.assertIs(gate.leave("a"), None)
        self.assertEqual(state_of(gate), ("gap 1; b 2 : 3", [("b", 6, 99)], 3))
        for value in other_values(lambda value: isinstance(value, str) and value == "b"):
            self.refuses(NoFlow(value), gate.leave, value)
        self.assertIs(gate.leave(name="b"), None)
        self.assertEqual(state_of(gate), ("gap 1", [], 4))
        gate.let_in(Single("a", 3, 2))
        self.assertEqual([gate.undo(), gate.undo(), gate.undo(), rows_of(gate.promises)],
                         ["in", "out", "out", [("a", 2, 50), ("a", 3, 99), ("b", 6, 99)]])

    def test_the_first_promise_in_order_that_would_not_hold(self):
        gate = made(Promise("a", 3, 15), Promise("b", 3, 9), Promise("a", 2, 12))
        for promise, ticks in ((Promise("a", 2, 12), 16), (Promise("a", 3, 15), 21), (Promise("b", 3, 9), 13)):
            for work in (lambda: gate.set_gap(2), lambda: setattr(gate, "gap", 2)):
                caught = self.refuses(Broken(promise), work)
                self.assertEqual((type(caught.__cause__), vars(caught.__cause__)), (Late, {"ticks": ticks}))
            gate.release(promise)
        gate.set_gap(2)
        self.assertEqual([gate.gap, gate.deeds], [2, 6])

    def test_a_broken_promise_among_those_that_come(self):
        gate = made(Promise("b", 3, 9))
        caught = self.refuses(Broken(Promise("a", 2, 3)), gate.let_in, Single("c", 1, 1), Promise("c", 1, 1), Promise("a", 2, 3))
        self.assertEqual(vars(caught.__cause__), {"ticks": 12 + 2 + 2})
        caught = self.refuses(Broken(Promise("b", 3, 9)), gate.let_in, Single("c", 1, 1), Promise("c", 1, 1))
        self.assertEqual(vars(caught.__cause__), {"ticks": 13})
        gate.release(Promise("b", 3, 9))
        self.refuses(Broken(Promise("c", 1, 1)), gate.let_in, Single("c", 1, 1), Promise("c", 2, 2), Promise("c", 1, 1))
        self.assertEqual(state_of(gate), ("gap 1; a 1 : 1; b 2 : 3", [], 3))
        gate.let_in(Single("c", 1, 1), Promise("c", 1, 8), Promise("a", 2, 16))
        self.assertEqual(rows_of(gate.promises), [("a", 2, 16), ("c", 1, 8)])

    def test_equal(self):
        gate = made(Promise("a", 2, 12))
        other = Gate(1)
        other.let_in(Flow("a", 1, Lengths(1)))
        self.assertIs(gate == other, False)
        other.let_in(Spread("b", 2, 3, 3), Promise("a", 2, 12))
        self.assertIs(gate == other, True)
        self.assertIs(gate != other, False)
        other.give(Promise("a", 2, 12))
        self.assertIs(gate == other, True)
        other.give(Promise("a", 2, 13))
        self.assertIs(gate == other, False)
        other.undo()
        other["b"] = 1
        self.assertIs(gate == other, False)
        self.assertIs(Gate(1) == Gate(2), False)
        for value in other_values(lambda value: isinstance(value, Gate)):
            self.assertIs(Gate(1) == value, False)
            self.assertIs(value == Gate(1), False)

    def test_what_was_told_stays(self):
        gate = made(Promise("a", 2, 12))
        link, promises, twin = gate.link, gate.promises, gate.twin()
        gate["b"] = 1
        gate.give(Promise("a", 1, 99))
        self.assertEqual((link, rows_of(promises)), (Link(1, A, B), [("a", 2, 12)]))
        self.assertEqual(state_of(twin), ("gap 1; a 1 : 1; b 2 : 3", [("a", 2, 12)], 0))
        twin.leave("a")
        self.assertEqual(state_of(gate), ("gap 1; a 1 : 1; b 1 : 3", [("a", 1, 99), ("a", 2, 12)], 4))


class LetInErrors(Case):

    def test_each_alone_and_in_their_order(self):
        gate = made(Promise("b", 3, 9))
        no_flow, no_sum, broken = Promise("x", 1, 1), Promise("b", 4, 1), Promise("a", 1, 1)
        for value in other_values(lambda value: isinstance(value, Flow)):
            self.refuses(BadFlow("flow"), gate.let_in, value)
            self.refuses(BadFlow("flow"), gate.let_in, value, None, no_flow)
        for value in other_values(lambda value: isinstance(value, Promise)):
            self.refuses(BadPromise("promise"), gate.let_in, Single("c", 1, 1), value)
            self.refuses(BadPromise("promise"), gate.let_in, A, no_flow, no_sum, broken, value)
        self.refuses(Known("a"), gate.let_in, A)
        self.refuses(Known("b"), gate.let_in, Single("b", 9, 9), no_flow, no_sum, broken)
        for rows, error in (((no_sum, no_flow, broken), NoFlow("x")), ((broken, Promise("c", 2, 0), no_sum), NoSum(4)),
                            ((Promise("c", 5, 0), no_sum), NoSum(5)), ((Promise("y", 1, 1), no_flow), NoFlow("y")),
                            ((broken, Promise("c", 2, 1)), Broken(broken)), ((Promise("b", 3, 99),), Broken(Promise("b", 3, 9)))):
            self.refuses(error, gate.let_in, Single("c", 1, 2), *rows)
        self.assertEqual(state_of(gate), ("gap 1; a 1 : 1; b 2 : 3", [("b", 3, 9)], 2))

    def test_too_many_flows(self):
        gate = Gate(1)
        for name in "abcdef":
            gate.let_in(Single(name, 1, 1))
        for rows in ((), (Promise("x", 1, 1),), (Promise("a", 1, 1),)):
            self.refuses(TooMany("flows", 6), gate.let_in, Single("g", 1, 1), *rows)
        self.refuses(Known("f"), gate.let_in, Single("f", 1, 1))
        self.refuses(BadPromise("promise"), gate.let_in, Single("g", 1, 1), "no")
        self.assertEqual((len(gate), gate.deeds), (6, 6))


class Oops(Exception):
    """An error that is none of the package."""


class Deeds(Case):

    def test_all_words(self):
        gate = Gate(1)
        self.refuses(NoDeed(), gate.undo)
        seen = [state_of(gate)]
        for work in (lambda: gate.let_in(A), lambda: gate.give(Promise("a", 1, 99)), lambda: gate.give(Promise("a", 1, 99)),
                     lambda: gate.set_quantum("a", 5), lambda: gate.set_quantum("a", 5), lambda: gate.set_gap(3),
                     lambda: gate.set_gap(3), lambda: gate.release(Promise("a", 1, 99)), lambda: gate.leave("a")):
            work()
            seen.append(state_of(gate))
            self.assertEqual(gate.deeds, len(seen) - 1)
        words = []
        for state in seen[-2::-1]:
            words.append(gate.undo())
            self.assertEqual(state_of(gate), state)
        self.assertEqual(words, ["out", "release", "gap", "gap", "quantum", "quantum", "give", "give", "in"])
        self.refuses(NoDeed(), gate.undo)
        self.assertEqual(state_of(gate), ("gap 1", [], 0))

    def test_trials(self):
        gate = made(Promise("a", 2, 12))
        ahead = state_of(gate)
        with gate.trial() as same:
            self.assertIs(same, gate)
            gate.leave("a")
            with gate.trial():
                gate.let_in(Single("c", 1, 1))
                self.assertEqual([gate.undo() for _ in range(4)], ["in", "out", "in", "in"])
                self.assertEqual(state_of(gate), ("gap 1", [], 0))
            self.assertEqual(state_of(gate), ("gap 1; b 2 : 3", [], 3))
        self.assertEqual(state_of(gate), ahead)

    def test_errors_leave_trials(self):
        gate = made(Promise("a", 2, 12))
        ahead = state_of(gate)
        for error in (Oops, KeyboardInterrupt, BadName):
            with self.assertRaises(error):
                with gate.trial() as same:
                    same.set_quantum("b", 1)
                    raise error("x") if error is BadName else error()
            self.assertEqual(state_of(gate), ahead)
        with self.assertRaises(Broken):
            with gate.trial():
                gate.undo()
                gate.let_in(A, Promise("a", 1, 0))
        self.assertEqual(state_of(gate), ahead)

    def test_a_trial_that_is_kept(self):
        gate = made()
        trial = gate.trial()
        gate.set_gap(2)
        with trial:
            gate.set_gap(3)
        self.assertEqual([gate.gap, gate.deeds, gate.undo(), gate.gap], [2, 3, "gap", 1])

    def test_tried(self):
        gate = made(Promise("a", 2, 12))
        ahead = state_of(gate)
        self.assertEqual(gate.tried(lambda same: (same is gate, same.leave("a"), len(same), same.deeds)), (True, None, 1, 3))
        self.assertEqual(state_of(gate), ahead)
        self.assertEqual(gate.tried(work=lambda same: [same.undo(), same.undo()]), ["in", "in"])
        self.assertEqual(state_of(gate), ahead)
        self.refuses(NoFlow("x"), gate.tried, lambda same: [same.undo(), same.leave("x")])
        self.assertEqual(state_of(gate), ahead)

    def test_attempt(self):
        gate = made(Promise("a", 2, 12))
        self.assertEqual(gate.attempt(lambda same: (same is gate, same.set_quantum("b", 1), same.deeds)), (True, None, 3))
        self.assertEqual(state_of(gate), ("gap 1; a 1 : 1; b 1 : 3", [("a", 2, 12)], 3))
        ahead = state_of(gate)
        self.refuses(NoFlow("x"), gate.attempt, lambda same: [same.undo(), same.undo(), same.set_gap(9), same.leave("x")])
        self.assertEqual(state_of(gate), ahead)

        def work(same):
            same.leave("a")
            same.attempt(lambda inner: inner.set_gap(5))
            raise Oops()

        self.assertRaises(Oops, gate.attempt, work=work)
        self.assertEqual(state_of(gate), ahead)
        self.assertEqual([gate.undo(), gate.undo(), gate.undo(), gate.deeds], ["quantum", "in", "in", 0])


class Plain:
    """A gate as a dict of flows and a list of rows of promises, told by latest alone."""

    def __init__(self, gap):
        self.gap, self.flows, self.rows = gap, {}, []

    def link(self):
        return Link(self.gap, *self.flows.values())

    def first_broken(self):
        for name, bits, ticks in sorted(set(self.rows)):
            late = latest(self.link(), name, bits).ticks
            if late > ticks:
                return Promise(name, bits, ticks), late
        return None


class Walks(Case):
    """Drawn deeds, one behind another."""

    def setUp(self):
        self.told = random.Random(5)

    def drawn_promise(self, gate):
        name = self.told.choice([*gate.link.names, "x"])
        bits = self.told.randrange(1, 20)
        ticks = self.told.randrange(300)
        if name in gate and gate[name].lengths.has(bits) and self.told.randrange(3):
            ticks = latest(gate.link, name, bits).ticks + self.told.randrange(-1, 40)
        return Promise(name, bits, max(0, ticks))

    def step(self, gate, plain):
        """A deed, and what it makes of the plain gate."""
        way, name = self.told.randrange(7), self.told.choice("abcdefgh")
        promise = self.drawn_promise(gate)
        if way < 2:
            flow = drawn_flow(self.told, name)
            return lambda: gate.let_in(flow), lambda: plain.flows.update({name: flow})
        if way == 2:
            row = (promise.name, promise.bits, promise.ticks)
            return lambda: gate.give(promise), lambda: plain.rows.append(row)
        if way == 3 and gate.promises:
            one = self.told.choice(gate.promises)
            row = (one.name, one.bits, one.ticks)
            return lambda: gate.release(one), lambda: plain.rows.__setitem__(
                slice(None), [other for other in plain.rows if other != row])
        if way == 4 and self.told.randrange(3) == 0:
            return lambda: gate.leave(name), lambda: (plain.flows.pop(name), plain.rows.__setitem__(
                slice(None), [other for other in plain.rows if other[0] != name]))
        if way == 5:
            quantum = self.told.randrange(1, 12)
            return lambda: gate.__setitem__(name, quantum), lambda: plain.flows.update(
                {name: plain.flows[name].with_quantum(quantum)})
        gap = self.told.randrange(1, 5)
        return lambda: setattr(gate, "gap", gap), lambda: setattr(plain, "gap", gap)

    def test_drawn_deeds(self):
        seen = {}
        for _ in range(60):
            gate, plain = Gate(1), Plain(1)
            for _ in range(40):
                ahead = state_of(gate)
                keep = plain.gap, dict(plain.flows), list(plain.rows)
                work, follow = self.step(gate, plain)
                try:
                    work()
                    follow()
                    self.assertIs(plain.first_broken(), None)
                    self.assertEqual(gate.deeds, ahead[2] + 1)
                    seen["done"] = seen.get("done", 0) + 1
                except Broken as caught:
                    follow()
                    promise, late = plain.first_broken()
                    self.assertEqual((caught.promise, caught.__cause__.ticks), (promise, late))
                    plain.gap, plain.flows, plain.rows = keep
                    self.assertEqual(state_of(gate), ahead)
                    seen["broken"] = seen.get("broken", 0) + 1
                except CreditError as caught:
                    self.assertIn(type(caught), (Known, TooMany, NoFlow, NoSum))
                    self.assertEqual(state_of(gate), ahead)
                self.look(gate, plain)
        self.assertTrue(min(seen.values()) > 100, seen)

    def look(self, gate, plain):
        self.assertEqual(gate.link, plain.link())
        self.assertEqual(rows_of(gate.promises), sorted(set(plain.rows)))
        for one in gate.promises:
            self.assertLessEqual(latest(gate.link, one.name, one.bits).ticks, one.ticks)
            self.assertGreaterEqual(gate.spare(one), 0)
