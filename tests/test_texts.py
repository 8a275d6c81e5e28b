"""creditturns.texts and creditturns.reader: texts put together beside the program, and texts that are none."""

import random

from creditturns.buckets import Bucket
from creditturns.errors import BadGate, BadPlay, BadText, BadTurns, NoDeed
from creditturns.flows import Fed, Flow, Single
from creditturns.gates import Gate, Promise
from creditturns.lengths import Lengths
from creditturns.lines import Line
from creditturns.links import Link
from creditturns.plays import Arrival, Play, Turn
from creditturns.reader import read_gate, read_play, read_turns
from creditturns.texts import gate_text, play_text, turns_text
from creditturns.waits import latest
from tests.drawn import drawn_flow, drawn_links, drawn_play
from tests.helper import Case, any_values, is_from, is_name, other_values
from tests.plain_texts import drawn_texts, wrong_in_gate, wrong_in_play, wrong_in_turns

A, B = Single("a", 1, 1), Single("b", 2, 3)
DUO = Link(1, A, B)
PLAY = Play(DUO, [Arrival(0, "b", 3), Arrival(0, "b", 3), Arrival(1, "a", 1), Arrival(1, "a", 1)])
WIDE = 10 ** 60


def lines(*rows):
    return "\n".join(" ".join(str(part) for part in row) for row in rows)


def plain_play_text(play):
    return lines(("play",), (str(play.link),), *[(one.moment, one.name, one.length) for one in play.arrivals])


def plain_turns_text(turns):
    return lines(("turns",), *[(one.name, one.moment, one.credit, one.rest, ("kept", "left")[one.is_left], *one.lengths)
                               for one in turns])


def plain_gate_text(gate):
    return lines(("gate", gate.gap), *[(str(flow),) for flow in gate.link],
                 *[("promise", one.name, one.bits, one.ticks) for one in gate.promises])


def drawn_gate(told, link):
    gate = Gate(link.gap)
    for flow in link:
        if told.randrange(3) == 0:
            flow = Fed(flow.name, flow.quantum, flow.lengths, Bucket(flow.longest + 3, told.randrange(1, 5), 9))
        gate.let_in(flow)
    for _ in range(told.randrange(6)):
        name = told.choice(link.names)
        bits = link[name].lengths.ceiling(told.choice((1, 2, 9)))
        gate.give(Promise(name, bits, latest(gate.link, name, bits).ticks + told.choice((0, 1, 1, 50))))
    return gate


class Plays(Case):

    def look(self, play):
        text = play_text(play)
        self.assertEqual(text, plain_play_text(play))
        again = read_play(text)
        self.assertIs(type(again), Play)
        self.assertEqual((again, again.log, again.sent), (play, play.log, play.sent))
        self.assertEqual(play_text(play=again), text)
        self.assertEqual(read_play(text=text), play)

    def test_by_hand(self):
        self.assertEqual(play_text(PLAY), "play\ngap 1; a 1 : 1; b 2 : 3\n0 b 3\n0 b 3\n1 a 1\n1 a 1")
        self.look(PLAY)
        self.assertEqual(play_text(Play(Link(7), [])), "play\ngap 7")
        self.look(Play(Link(1000000), ()))
        self.look(Play(DUO, []))
        self.look(Play(DUO | Fed("b", 2, Lengths(3, 5), Bucket(9, 1, 6)), [Arrival(10 ** 12, "b", 5)]))
        self.look(Play(DUO, [Arrival(at, "a", 1) for at in range(300)]))

    def test_drawn_plays(self):
        told = random.Random(1)
        for link in drawn_links(81, 60, longest=60):
            self.look(drawn_play(told, link))

    def test_other_values(self):
        for value in other_values(lambda value: isinstance(value, Play)):
            self.refuses(BadPlay("play"), play_text, value)


class Turns(Case):

    def look(self, turns):
        text = turns_text(turns)
        self.assertEqual(text, plain_turns_text(turns))
        again = read_turns(text)
        self.same(again, tuple(turns))
        for one, other in zip(again, turns):
            for field in vars(one):
                self.same(getattr(one, field), getattr(other, field))
        self.assertEqual(turns_text(turns=list(again)), text)
        self.assertEqual(read_turns(text=text), tuple(turns))

    def test_by_hand(self):
        self.assertEqual(turns_text(PLAY.log[:2]), "turns\nb 0 0 2 kept\nb 1 2 1 kept 3")
        self.assertEqual(turns_text(PLAY.log[2:]), "turns\na 5 0 0 kept 1\nb 7 1 0 left 3\na 11 0 0 left 1")
        self.look(PLAY.log)
        self.look(list(PLAY.log[1::2]))
        self.assertEqual([turns_text(()), turns_text([])], ["turns", "turns"])
        self.look(())

    def test_logs_of_plays_and_lines(self):
        told = random.Random(2)
        for link in drawn_links(82, 40, longest=60):
            play = drawn_play(told, link)
            self.look(play.log)
            line = Line(link)
            for one in play.arrivals:
                line.go(one.moment - line.now)
                line.put(one.name, one.length)
            self.look(line.log)
            line.run()
            self.assertEqual(turns_text(line.log), turns_text(play.log))

    def test_turns_that_cannot_come_about(self):
        # Only their form is looked at.
        self.look([Turn("z", 0, 59, (60,) * 40, 59, True), Turn("abcdefgh", WIDE - 1, 0, (), 0, False)])
        self.look((Turn("a", 1, 0, (1,), 7, True), Turn("a", 2, 0, (), 0, True)))

    def test_other_values(self):
        for value in other_values(lambda value: value == () or isinstance(value, list) and value == []):
            self.refuses(BadTurns("turns"), turns_text, value)
        for value in other_values(lambda value: isinstance(value, Turn)):
            self.refuses(BadTurns("turns"), turns_text, [*PLAY.log, value])
            self.refuses(BadTurns("turns"), turns_text, (value,))

    def test_parts_of_turns_that_have_no_text(self):
        fields = {"name": "a", "moment": 5, "credit": 3, "lengths": (1,), "rest": 3, "is_left": False}
        looks = {"name": is_name, "moment": lambda value: is_from(value, 1, WIDE - 1),
                 "credit": lambda value: is_from(value, 0, 59), "rest": lambda value: is_from(value, 0, 59),
                 "is_left": lambda value: isinstance(value, bool),
                 "lengths": lambda value: isinstance(value, tuple) and all(is_from(one, 1, 60) for one in value)}
        further = [(60, 1), (61,), (0,), (True,), [1], -1, 59, 60, WIDE - 1, WIDE]
        for field, look in looks.items():
            for value in [*any_values(), *further]:
                row = [Turn("b", 0, 0, (), 0, False), Turn(**{**fields, field: value})]
                if look(value):
                    self.look(row)
                else:
                    self.refuses(BadTurns("turns"), turns_text, row)

    def test_moments(self):
        first, second = PLAY.log[:2]
        for row in ([second, first], [first, first], [*PLAY.log, *PLAY.log], PLAY.log[::-1]):
            self.refuses(BadTurns("turns"), turns_text, row)


class Gates(Case):

    def look(self, gate):
        text = gate_text(gate)
        self.assertEqual(text, plain_gate_text(gate))
        again = read_gate(text)
        self.assertIs(type(again), Gate)
        self.assertEqual((again, again.deeds), (gate, 0))
        self.refuses(NoDeed(), again.undo)
        self.assertEqual(gate_text(gate=again), text)
        self.assertEqual(read_gate(text=text), gate)

    def test_by_hand(self):
        gate = Gate(1)
        self.assertEqual(gate_text(gate), "gate 1")
        self.look(gate)
        gate.let_in(B)
        gate.let_in(A, Promise("b", 3, 9), Promise("a", 2, 12), Promise("a", 2, 13), Promise("a", 1, 50))
        self.assertEqual(gate_text(gate), "gate 1\na 1 : 1\nb 2 : 3\npromise a 1 50\npromise a 2 12\npromise a 2 13"
                                          "\npromise b 3 9")
        self.look(gate)
        self.assertEqual(gate.deeds, 2)

    def test_a_flow_called_promise(self):
        gate = Gate(3)
        gate.let_in(Flow("promise", 4, Lengths(4, 6)), Promise("promise", 4, 90))
        gate.let_in(A)
        gate.let_in(Single("z", 1, 1))
        self.assertEqual(gate_text(gate), "gate 3\na 1 : 1\npromise 4 : 4 6\nz 1 : 1\npromise promise 4 90")
        self.look(gate)
        gate.leave("z")
        self.look(gate)

    def test_drawn_gates(self):
        told = random.Random(3)
        for link in drawn_links(83, 80, longest=60):
            self.look(drawn_gate(told, link))

    def test_long_numbers(self):
        gate = Gate(1000000)
        gate.let_in(Flow("a", 1000, Lengths(1)), Promise("a", 10 ** 50, WIDE - 1))
        self.look(gate)

    def test_other_values(self):
        for value in other_values(lambda value: isinstance(value, Gate)):
            self.refuses(BadGate("gate"), gate_text, value)


class WrongTexts(Case):

    def look(self, read, wrong, text):
        """The text is read exactly, or the first wrong word is told."""
        place = wrong(text)
        if place is not None:
            self.refuses(BadText(*place), read, text)
            return False
        write = {read_play: play_text, read_turns: turns_text, read_gate: gate_text}[read]
        self.assertEqual(write(read(text)), text)
        return True

    def table(self, read, wrong, rows):
        for text, *place in rows:
            self.assertEqual(wrong(text), tuple(place) or None, text)
            self.look(read, wrong, text)

    def test_what_is_no_string(self):
        for value in other_values(lambda value: isinstance(value, str)):
            for read in (read_play, read_turns, read_gate):
                self.refuses(BadText(0, 0), read, value)

    def test_any_strings(self):
        for value in any_values():
            if isinstance(value, str):
                for read, wrong in ((read_play, wrong_in_play), (read_turns, wrong_in_turns), (read_gate, wrong_in_gate)):
                    self.look(read, wrong, value)

    def test_first_lines(self):
        link = "\ngap 1; a 1 : 1"
        self.table(read_play, wrong_in_play, (
            ("", 0, 0), ("play", 1, 0), ("Play" + link, 0, 0), ("play " + link, 0, 1), (" play" + link, 0, 0),
            ("play 1" + link, 0, 1), ("turns" + link, 0, 0), ("\nplay" + link, 0, 0), ("play\n", 1, 0), ("play" + link,),
            ("play\ngap", 1, 1), ("play\ngap 0", 1, 1), ("play\ngap 1;", 1, 2), ("play\ngap 1 ", 1, 2), ("play\ngap 1",),
            ("play\ngap 1; b 1 : 1; a 1 : 1", 1, 6), ("play\ngap 1; a 1 : 2 1", 1, 6), ("play\n\ngap 1", 1, 0)))
        self.table(read_turns, wrong_in_turns, (
            ("", 0, 0), ("turns",), ("turns ", 0, 1), ("turns\n", 1, 0), ("turn", 0, 0), ("turns x", 0, 1), ("turns\n\n", 1, 0)))
        self.table(read_gate, wrong_in_gate, (
            ("", 0, 0), ("gate", 0, 1), ("gate ", 0, 1), ("gate 0", 0, 1), ("gate 1",), ("gate 1 ", 0, 2), ("gate 1 1", 0, 2),
            ("gate 1000000",), ("gate 1000001", 0, 1), ("gate 01", 0, 1), ("gate 1\n", 1, 0), ("gates 1", 0, 0),
            ("gap 1", 0, 0), ("gate  1", 0, 1), (" gate 1", 0, 0), ("gate -1", 0, 1), ("gate " + "9" * 4990, 0, 1)))

    def test_arrivals(self):
        head = "play\ngap 1; a 1 : 1; b 2 : 3 5\n"
        self.table(read_play, wrong_in_play, (
            (head + "0 a 1",), (head, 2, 0), (head + "0", 2, 1), (head + "0 a", 2, 2), (head + "0 a 1 ", 2, 3),
            (head + "0 a 1 1", 2, 3), (head + "0 c 1", 2, 1), (head + "0 a 3", 2, 2), (head + "0 b 4", 2, 2),
            (head + "00 a 1", 2, 0), (head + "-1 a 1", 2, 0), (head + "0 a 01", 2, 2), (head + "0  a 1", 2, 1),
            (head + "1000000000000 a 1",), (head + "1000000000001 a 1", 2, 0), (head + "3 a 1\n2 a 1", 3, 0),
            (head + "3 a 1\n3 b 5\n3 b 3",), (head + "3 a 1\n", 3, 0), (head + "3 a 1\n\n3 a 1", 3, 0),
            (head + "0 A 1", 2, 1), (head + "0 b 61", 2, 2), (head + "0\ta 1", 2, 0), (head + "x b 61", 2, 0)))

    def test_the_301st_arrival(self):
        head = "play\ngap 1; a 1 : 1\n"
        rows = ["0 a 1"] * 300
        self.table(read_play, wrong_in_play, (
            (head + "\n".join(rows),), (head + "\n".join(rows + ["0 a 1"]), 302, 0), (head + "\n".join(rows + [""]), 302, 0),
            (head + "\n".join(rows + ["x y z"]), 302, 0), (head + "\n".join(rows[1:] + ["0 a 2", "0 a 1"]), 301, 2)))

    def test_turns(self):
        self.table(read_turns, wrong_in_turns, (
            ("turns\na 0 0 0 kept",), ("turns\na 0 0 0 left 1 60 1",), ("turns\na 0 0 0", 1, 4), ("turns\na 0 0 0 left ", 1, 5),
            ("turns\na 0 0 0 lost", 1, 4), ("turns\na 0 0 60 kept", 1, 3), ("turns\na 0 60 0 kept", 1, 2),
            ("turns\na 0 59 59 kept",), ("turns\na1 0 0 0 kept", 1, 0), ("turns\nabcdefghi 0 0 0 kept", 1, 0),
            (f"turns\na {WIDE - 1} 0 0 kept",), (f"turns\na {WIDE} 0 0 kept", 1, 1), ("turns\na 0 0 0 kept 61", 1, 5),
            ("turns\na 0 0 0 kept 1 0", 1, 6), ("turns\na 5 0 0 kept\na 5 0 0 kept", 2, 1), ("turns\na 5 0 0 kept\nb 6 0 0 left",),
            ("turns\na 5 0 0 kept\nb 4 0 0 left", 2, 1), ("turns\na 0 00 0 kept", 1, 2), ("turns\na 0 0 0 kept\n", 2, 0),
            ("turns\na 0 0 0 kept 1  1", 1, 6), ("turns\n\na 0 0 0 kept", 1, 0), ("turns\nA 0 0 0 kept", 1, 0)))

    def test_flows_of_gates(self):
        six = "gate 1\n" + "\n".join(f"{name} 1 : 1" for name in "abcdef")
        self.table(read_gate, wrong_in_gate, (
            (six,), (six + "\ng 1 : 1", 7, 0), (six + "\n", 7, 0), (six + "\npromise 1 : 1", 7, 0),
            (six + "\npromise a 1 12",), (six + "\npromise a 1 11", 7, 3), ("gate 1\nb 1 : 1\na 1 : 1", 2, 0),
            ("gate 1\na 1 : 1\na 2 : 1", 2, 0), ("gate 1\na 1001 : 1", 1, 1), ("gate 1\na 1 : 2 1", 1, 4),
            ("gate 1\na 1 : 1 :", 1, 5), ("gate 1\na 1 : 1 : 2 1 6",), ("gate 1\na 1 : 1 : 2 3 6", 1, 6),
            ("gate 1\na 1 : 1\n", 2, 0), ("gate 1\na 1", 1, 2), ("gate 1\na 1 1", 1, 2), ("gate 1\na 1 : 1;", 1, 3)))

    def test_promises_of_gates(self):
        head = "gate 1\na 1 : 1\nb 2 : 3\n"
        self.table(read_gate, wrong_in_gate, (
            (head + "promise a 2 12",), (head + "promise a 2 11", 3, 3), (head + "promise a 2 12 ", 3, 4),
            (head + "promise a 2", 3, 3), (head + "promise a", 3, 2), (head + "promise", 3, 1), (head + "promise ", 3, 1),
            (head + "promise c 1 99", 3, 1), (head + "promise b 4 99", 3, 2), (head + "promise a 0 99", 3, 2),
            (head + "promise b 3 99\npromise a 1 99", 4, 1), (head + "promise a 2 99\npromise a 1 99", 4, 2),
            (head + "promise a 2 99\npromise a 2 99", 4, 3), (head + "promise a 2 99\npromise a 2 98", 4, 3),
            (head + "promise a 2 99\npromise a 2 100",), (head + "promise a 2 99\npromise a 3 98",),
            (head + "promise a 2 99\npromise b 3 9",), (head + "promise a 2 99\npromise b 3 8", 4, 3),
            (head + "promise a 2 99\nc 1 : 1", 4, 0), (head + "promise a 2 99\n", 4, 0),
            (head + "promise a 2 99\npromise 4 : 4", 4, 1), (head + "promise 4 : 4\npromise a 2 99",),
            (head + "promise 4 4 :", 3, 1), (head + "promise a : 4", 3, 1), (head + "promise x :", 3, 1),
            (head + f"promise a {WIDE} 99", 3, 2), (head + f"promise a 1 {WIDE}", 3, 3), (head + f"promise a 1 {WIDE - 1}",),
            (head + "promise a 02 12", 3, 2), (head + "promise a 2 012", 3, 3), (head + "promise a 2  12", 3, 3),
            ("gate 1\npromise a 2 12", 1, 1), ("gate 1\npromise a 2 12\na 1 : 1", 1, 1), (head + "Promise a 2 12", 3, 0),
            (head + "promise  : 12", 3, 1)))

    def test_changed_texts(self):
        told = random.Random(5)
        seen = {}
        for link in drawn_links(85, 60):
            play, gate = drawn_play(told, link, 8), drawn_gate(told, link)
            for text, read, wrong in ((play_text(play), read_play, wrong_in_play),
                                      (turns_text(play.log[:8]), read_turns, wrong_in_turns),
                                      (gate_text(gate), read_gate, wrong_in_gate)):
                self.assertTrue(self.look(read, wrong, text))
                for changed in drawn_texts(told, text, 60):
                    key = wrong, self.look(read, wrong, changed)
                    seen[key] = seen.get(key, 0) + 1
        self.assertEqual(len(seen), 6)
        self.assertGreater(min(seen.values()), 100, seen)

    def test_changed_gates_with_a_flow_called_promise(self):
        told = random.Random(6)
        gate = Gate(2)
        gate.let_in(Flow("promise", 3, Lengths(2, 5)), Promise("promise", 5, 60), Promise("promise", 5, 70))
        gate.let_in(drawn_flow(told, "a"))
        seen = set()
        for changed in drawn_texts(told, gate_text(gate), 3000):
            seen.add(self.look(read_gate, wrong_in_gate, changed))
        self.assertEqual(seen, {True, False})
