"""creditturns.desk: each line beside the calls of a gate and of the functions, and lines that are none."""

import random

from creditturns.aparts import apart
from creditturns.chosen import least_quantum
from creditturns.delays import Growing, delay, growing
from creditturns.desk import Desk
from creditturns.errors import (BadFlow, BadLine, BadPromise, Broken, CreditError, Known, NoDeed, NoFlow, NoQuantum,
                                NoSum, TooMany)
from creditturns.flows import Flow
from creditturns.gates import Gate, Promise
from creditturns.keeps import keeps
from creditturns.links import Link
from creditturns.lookers import Looker
from creditturns.mosts import least, most
from creditturns.plays import Arrival, Play
from creditturns.reader import read_gate
from creditturns.services import service, until
from creditturns.texts import gate_text
from creditturns.waits import latest
from creditturns.worsts import worst
from tests.helper import Case, any_values, other_values
from tests.plain_texts import WIDE, WORDS, first_wrong, is_name, is_number, word_of

DUO = ("flow a 1 : 1 : 2 1 6", "flow b 2 : 3")
FORMS = {
    "gap": ["gap"], "quantum": ["name", "quantum"], "leave": ["name"], "promise": ["name", "bits", "ticks"],
    "release": ["name", "bits", "ticks"], "undo": [], "link": [], "gate": [], "most": ["name", "ticks"],
    "fewest": ["name", "ticks"], "keeps": ["name"], "latest": ["name", "bits"], "until": ["name", "ticks"],
    "service": ["name", "ticks"], "worst": ["name", "bits"], "delay": ["name"], "apart": ["name", "name"],
    "spare": ["name", "bits", "ticks"], "chosen": ["name", "bits", "ticks"],
}
LOOKS = {
    "name": is_name, "gap": lambda word: is_number(word, 1, 1000000), "quantum": lambda word: is_number(word, 1, 1000),
    "bits": lambda word: is_number(word, 1, WIDE), "ticks": lambda word: is_number(word, 0, WIDE),
}


def wrong_word(line):
    """The word that cannot stand in a line, None if there is none."""
    words = line.split(" ")
    if words[0] == "flow":
        wrong = word_of(Flow.read, " ".join(words[1:])) if len(words) > 1 else 0
        return None if wrong is None else wrong + 1
    if words[0] not in FORMS:
        return 0
    wrong = first_wrong(words[1:], [LOOKS[kind] for kind in FORMS[words[0]]])
    return None if wrong is None else wrong + 1


def do_deed(gate, words):
    """A line of the first three rows, by the gate's own calls."""
    if words[0] == "gap":
        gate.gap = int(words[1])
    elif words[0] == "quantum":
        gate[words[1]] = int(words[2])
    elif words[0] == "leave":
        gate.leave(words[1])
    elif words[0] == "flow":
        gate.let_in(Flow.read(" ".join(words[1:])))
    else:
        promise = Promise(words[1], int(words[2]), int(words[3]))
        gate.give(promise) if words[0] == "promise" else gate.release(promise)


def asked(gate, words):
    """The answer of a line that changes nothing."""
    link = gate.link
    numbers = [int(word) for word in words[2:] if word.isdigit()]
    if words[0] in ("link", "gate"):
        return str(link) if words[0] == "link" else " ; ".join(gate_text(gate).split("\n"))
    name = words[1]
    if words[0] in ("most", "fewest"):
        return str(most(link[name], *numbers).bits if words[0] == "most" else least(link[name], *numbers).bits)
    if words[0] == "keeps":
        return " ".join(str(credit) for credit in keeps(link[name]))
    if words[0] in ("latest", "until", "service"):
        work = {"latest": lambda *row: latest(*row).ticks, "until": until, "service": service}[words[0]]
        return str(work(link, name, *numbers))
    if words[0] == "worst":
        arrivals = worst(link, name, *numbers).play.arrivals
        return ", ".join(f"{one.moment} {one.name} {one.length}" for one in arrivals)
    if words[0] == "delay":
        paper = growing(link, name)
        rows = vars(delay(link, name)) if paper is None else vars(paper)
        return " ".join([*(() if paper is None else ("grows",)), *[str(value) for value in rows.values()]])
    if words[0] == "apart":
        found = apart(link[name], link[words[2]])
        return f"{found.number} {found.turns}"
    if words[0] == "spare":
        return str(gate.spare(Promise(name, *numbers)))
    try:
        return str(least_quantum(link, name, *numbers).quantum)
    except NoQuantum:
        return "none"


def answered(gate, line):
    """What a desk with this gate answers, or the error that it raises."""
    words = line.split(" ")
    try:
        if wrong_word(line) is not None:
            return BadLine(wrong_word(line))
        if words[0] == "undo":
            return gate.undo() if gate.deeds else "nothing"
        if words[0] in ("gap", "quantum", "leave", "flow", "promise", "release"):
            do_deed(gate, words)
            return "ok"
        return asked(gate, words)
    except Broken as caught:
        return f"broken {caught.promise}"
    except CreditError as caught:
        return caught


def drawn_line(told, gate=None):
    """A line with words that can stand, mostly one that says something to a desk with this gate."""
    names = "abc"
    name, number = told.choice(names), str(told.choice((0, 1, 2, 3, 4, 6, 9, 12, 20, 40, 90)))
    word = told.choice([*FORMS, "flow", "flow", "promise", "quantum", "delay", "undo"])
    if word == "flow":
        lengths = told.choice(("1", "3", "2 5", "4 6"))
        return f"flow {name} {told.randrange(1, 7)} : {lengths}" + told.choice(("", " : 8 1 9", " : 9 2 60"))
    if word == "release" and gate is not None and gate.promises:
        return f"release {told.choice(gate.promises)}"
    if word == "promise" and gate is not None and len(gate) > 0:
        flow = gate[told.choice(gate.link.names)]
        bits = flow.lengths.ceiling(told.randrange(1, 20))
        return f"promise {flow.name} {bits} {latest(gate.link, flow.name, bits).ticks + told.randrange(-1, 9)}"
    parts = {"name": lambda: told.choice(names), "gap": lambda: str(told.randrange(1, 4))}
    row = [parts.get(kind, lambda: str(told.choice((1, 2, 3, 4, 5, 6, 9, 12, 20, 40, 90))))() for kind in FORMS[word]]
    return " ".join([word, *row]) if told.randrange(20) else f"{word} {name} {number}"


def desk_of(*rows):
    desk = Desk()
    desk.run(*rows)
    return desk


def state_of(desk):
    return gate_text(desk.gate_now()), desk.deeds


class Says(Case):

    def look(self, desk, gate, line, say):
        """A line of a desk beside its gate; what it answers or raises."""
        ahead = state_of(desk)
        right = answered(gate, line)
        if isinstance(right, CreditError):
            self.refuses(right, say, line)
            self.assertEqual(state_of(desk), ahead)
        else:
            self.same(say(line), right)
            self.assertNotIn("\n", right)
        self.assertEqual(desk.gate_now(), gate)
        self.assertEqual(desk.deeds, gate.deeds)
        return right

    def test_a_new_desk(self):
        desk = Desk()
        self.assertEqual((desk.gate_now(), desk.deeds, desk("link"), desk("gate")), (Gate(1), 0, "gap 1", "gate 1"))
        self.assertEqual([desk("undo"), desk.run(), desk.deeds], ["nothing", [], 0])

    def test_each_line_by_hand(self):
        desk = desk_of(*DUO)
        for line, answer in (
                ("link", "gap 1; a 1 : 1 : 2 1 6; b 2 : 3"), ("gate", "gate 1 ; a 1 : 1 : 2 1 6 ; b 2 : 3"),
                ("most b 4", "9"), ("most b 0", "0"), ("fewest b 3", "6"), ("fewest a 0", "0"), ("keeps b", "0 1 2"),
                ("keeps a", "0"), ("latest a 2", "12"), ("latest b 3", "9"), ("until a 0", "5"), ("until b 3", "12"),
                ("service a 12", "2"), ("service a 0", "0"), ("delay a", "12 2"), ("apart a b", "4 1"), ("apart a a", "1 0"),
                ("spare b 3 8", "-1"), ("spare a 2 12", "0"), ("chosen a 3 12", "3"), ("chosen a 3 7", "none"),
                ("gap 1", "ok"), ("promise a 2 12", "ok"), ("promise a 2 12", "ok"), ("promise a 2 11", "broken a 2 11"),
                ("gap 2", "broken a 2 12"), ("quantum b 4", "broken a 2 12"), ("quantum b 3", "ok"),
                ("flow c 1 : 1", "broken a 2 12"), ("release a 2 12", "ok"), ("flow c 1 : 1", "ok"), ("leave c", "ok"),
                ("undo", "out"), ("undo", "in"), ("undo", "release"), ("undo", "quantum"), ("undo", "give"), ("undo", "give"),
                ("undo", "gap"), ("undo", "in"), ("undo", "in"), ("undo", "nothing"), ("link", "gap 1")):
            self.same(desk(line), answer)

    def test_worst_and_grows(self):
        desk = desk_of(*DUO)
        told = desk("worst a 2").split(", ")
        play = Play(Link.read(desk("link")), [Arrival(int(row.split(" ")[0]), row.split(" ")[1], int(row.split(" ")[2]))
                                              for row in told])
        self.assertEqual(play.delay("a", 1), 12)
        desk = desk_of("flow a 1 : 1 : 2 1 4", "flow b 2 : 3")
        words = desk("delay a").split(" ")
        self.assertEqual((len(words), words[0]), (5, "grows"))
        self.assertTrue(Looker(desk.gate_now().link).grows(Growing(*[int(word) for word in words[1:]]), "a"))

    def test_call_and_say(self):
        desk = desk_of(*DUO)
        self.assertEqual([desk("keeps b"), desk.say("keeps b"), desk(line="keeps b"), desk.say(line="keeps b")], ["0 1 2"] * 4)
        self.refuses(BadLine(0), desk, "no")
        self.refuses(BadLine(0), desk.say, line=None)

    def test_drawn_lines(self):
        told = random.Random(1)
        seen = {}
        for _ in range(150):
            desk, gate = Desk(), Gate(1)
            for _ in range(60):
                line = drawn_line(told, gate)
                right = self.look(desk, gate, line, told.choice((desk, desk.say)))
                key = line.split(" ")[0], right.split(" ")[0] if right in ("nothing", "none") or isinstance(
                    right, str) and right.startswith(("broken", "grows")) else isinstance(right, str)
                seen[key] = seen.get(key, 0) + 1
        for word in [*FORMS, "flow"]:
            if word != "undo":
                self.assertGreater(seen.get((word, True), 0), 8, word)
        for key in (("undo", "nothing"), ("chosen", "none"), ("delay", "grows"), ("quantum", "broken"), ("gap", "broken"),
                    ("promise", "broken"), ("flow", "broken")):
            self.assertGreater(seen.get(key, 0), 5, key)

    def test_changed_lines(self):
        told = random.Random(2)
        desk, gate = desk_of(*DUO, "promise a 2 12"), Gate(1)
        for line in DUO + ("promise a 2 12",):
            answered(gate, line)
        seen = {}
        for _ in range(6000):
            words = drawn_line(told).split(" ")
            for _ in range(told.randrange(3)):
                at = told.randrange(len(words) + 1)
                words[at:at + told.randrange(2)] = [told.choice((*WORDS, "a\n", "1\n", "\n"))] * told.randrange(2)
            right = self.look(desk, gate, " ".join(words), desk)
            seen[type(right)] = seen.get(type(right), 0) + 1
        self.assertTrue({str, BadLine, NoFlow, NoSum, Known, BadFlow, BadPromise} <= set(seen), seen)


class Errors(Case):

    def test_what_is_no_line(self):
        desk = desk_of(*DUO)
        for value in other_values(lambda value: value == "gap 1"):
            self.refuses(BadLine(0), desk, value)
            self.refuses(BadLine(0), desk.say, value)
            self.refuses(BadLine(0), desk.run, "gap 2", value)
        self.assertEqual((desk.deeds, desk("link")), (2, "gap 1; a 1 : 1 : 2 1 6; b 2 : 3"))

    def test_words_that_cannot_stand(self):
        desk = desk_of(*DUO)
        wide = str(WIDE + 1)
        for line, word in (
                ("", 0), (" ", 0), ("undo ", 1), (" undo", 0), ("undo\n", 0), ("undo x", 1), ("link gap", 1), ("gate ", 1),
                ("Link", 0), ("gap", 1), ("gap ", 1), ("gap 0", 1), ("gap 1000001", 1), ("gap 1 1", 2), ("gap 1 ", 2),
                ("gap 1\n", 1), ("gap\n1", 0), ("gap 01", 1), ("gap  1", 1), ("quantum", 1), ("quantum a", 2),
                ("quantum A 1", 1), ("quantum a 0", 2), ("quantum a 1001", 2), ("quantum a 1 1", 3), ("leave", 1),
                ("leave 1", 1), ("leave a b", 2), ("leave a\n", 1), ("flow", 1), ("flow ", 1), ("flow c", 2), ("flow c 1", 3),
                ("flow c 1 :", 4), ("flow c 1 : 0", 4), ("flow c 1 : 1 1", 5), ("flow c 1 : 1 : 2 3 1", 7),
                ("flow c 1 : 1 : 2 1 6 ", 9), ("flow c 1 : 1\n", 4), ("flow a 0 : 1", 2), ("promise", 1), ("promise a", 2),
                ("promise a 2", 3), ("promise a 0 1", 2), ("promise a 2 -1", 3), ("promise a 2 12 1", 4),
                (f"promise a {wide} 1", 2), (f"promise a 2 {wide}", 3), ("release a 0 1", 2), ("release a 1 1 ", 4),
                ("most a", 2), ("most a -1", 2), (f"most a {wide}", 2), ("most a 1 1", 3), ("fewest a x", 2),
                ("keeps", 1), ("keeps a a", 2), ("latest a x", 2), ("latest a 0", 2), ("latest a 1\n", 2), ("until a", 2),
                (f"until a {wide}", 2), ("service a -1", 2), ("worst a 0", 2), ("worst a", 2), ("delay", 1), ("delay a 1", 2),
                ("apart a", 2), ("apart a 1", 2), ("apart a b c", 3), ("spare a 1", 3), ("spare a 0 1", 2), ("chosen a 1", 3),
                ("chosen a 1 1 1", 4), ("chosen a 0 1", 2), ("latest abcdefghi 1", 1), ("flows a 1 : 1", 0), ("gap 1\ngap 2", 1)):
            self.assertEqual(wrong_word(line), word, line)
            for say in (desk, desk.say, desk.run):
                self.refuses(BadLine(word), say, line)
        self.assertEqual(desk.deeds, 2)

    def test_errors_of_what_is_called(self):
        desk = desk_of(*DUO)
        for line, error in (
                ("flow a 2 : 1", Known("a")), ("quantum c 1", NoFlow("c")), ("leave c", NoFlow("c")),
                ("promise c 1 1", NoFlow("c")), ("promise b 4 1", NoSum(4)), ("release a 1 1", BadPromise("unknown")),
                ("most c 1", NoFlow("c")), ("fewest c 1", NoFlow("c")), ("keeps c", NoFlow("c")), ("latest c 1", NoFlow("c")),
                ("latest b 4", NoSum(4)), ("until c 0", NoFlow("c")), ("service c 0", NoFlow("c")), ("worst c 1", NoFlow("c")),
                ("worst b 4", NoSum(4)), ("worst a 300", TooMany("bits", 300)), ("delay c", NoFlow("c")),
                ("delay b", BadFlow("bucket")), ("apart c a", NoFlow("c")), ("apart a c", NoFlow("c")),
                ("spare c 1 1", NoFlow("c")), ("spare b 4 1", NoSum(4)), ("chosen c 1 1", NoFlow("c")), ("chosen b 4 1", NoSum(4))):
            for say in (desk, desk.say, desk.run):
                self.refuses(error, say, line)
        self.assertEqual(state_of(desk), ("gate 1\na 1 : 1 : 2 1 6\nb 2 : 3", 2))

    def test_too_many(self):
        desk = desk_of(*[f"flow {name} 1 : 1" for name in "abcdef"])
        self.refuses(TooMany("flows", 6), desk, "flow g 1 : 1")
        self.refuses(TooMany("bits", 20000), desk_of("flow a 1 : 1 : 19999 1 9"), "delay a")
        self.assertEqual(desk.deeds, 6)

    def test_a_broken_line_changes_nothing(self):
        desk = desk_of(*DUO, "promise a 2 12")
        ahead = state_of(desk)
        for line in ("gap 2", "quantum b 4", "flow c 1 : 1", "promise b 3 8", "promise a 2 11"):
            self.assertTrue(desk(line).startswith("broken "))
            self.assertEqual(state_of(desk), ahead)
        self.assertEqual(desk.run("gap 2", "quantum b 3", "gap 2"), ["broken a 2 12", "ok", "broken a 2 12"])
        self.assertEqual([desk.deeds, desk("undo"), desk("undo")], [4, "quantum", "give"])


class Runs(Case):

    def test_the_example(self):
        desk = Desk()
        self.assertEqual(desk.run(*DUO, "latest a 2", "promise a 2 12", "quantum b 4", "quantum b 3", "undo", "delay a"),
                         ["ok", "ok", "12", "ok", "broken a 2 12", "ok", "quantum", "12 2"])
        self.assertEqual(desk.deeds, 3)

    def test_a_run_that_raises_in_each_of_its_lines(self):
        rows = ["gap 3", "undo", "flow c 1 : 1", "leave a", "undo", "quantum b 1", "link"]
        for at in range(len(rows) + 1):
            for wrong, error in (("no", BadLine(0)), ("leave x", NoFlow("x")), ("flow b 1 : 1", Known("b")),
                                 ("delay b", BadFlow("bucket")), (None, BadLine(0)), ("link ", BadLine(1))):
                desk = desk_of(*DUO)
                ahead = state_of(desk)
                self.refuses(error, desk.run, *rows[:at], wrong, *rows[at:])
                self.assertEqual(state_of(desk), ahead)
                self.assertEqual([desk("undo"), desk("undo"), desk("undo")], ["in", "in", "nothing"])
        # The lines of the desk that are taken back in the run are there again.
        desk = desk_of(*DUO, "gap 2")
        self.refuses(BadLine(0), desk.run, "undo", "undo", "undo", "undo", "flow z 1 : 1", "no")
        self.assertEqual([desk("undo"), desk("undo"), desk("undo"), desk("undo")], ["gap", "in", "in", "nothing"])

    def test_drawn_runs(self):
        told = random.Random(3)
        seen = set()
        for _ in range(150):
            desk = desk_of(*DUO)
            alone = desk_of(*DUO)
            lines = [drawn_line(told) for _ in range(told.randrange(6))]
            ahead, answers = state_of(desk), []
            try:
                for line in lines:
                    answers.append(alone(line))
            except CreditError as caught:
                self.refuses(caught, desk.run, *lines)
                self.assertEqual(state_of(desk), ahead)
                seen.add(False)
                continue
            self.assertEqual(desk.run(*lines), answers)
            self.assertEqual(state_of(desk), state_of(alone))
            seen.add(True)
        self.assertEqual(seen, {True, False})


class GatesNow(Case):

    def test_it_goes_its_own_way(self):
        desk = desk_of(*DUO)
        gate = desk.gate_now()
        self.assertIs(type(gate), Gate)
        self.assertEqual((gate.deeds, gate), (0, read_gate("gate 1\na 1 : 1 : 2 1 6\nb 2 : 3")))
        self.refuses(NoDeed(), gate.undo)
        gate.leave("a")
        self.assertEqual([desk("link"), desk.deeds], ["gap 1; a 1 : 1 : 2 1 6; b 2 : 3", 2])
        desk("leave b")
        self.assertEqual([gate.link.names, desk.gate_now().link.names], [("b",), ("a",)])

    def test_desks_go_their_own_way(self):
        one, two = Desk(), Desk()
        one("gap 7")
        self.assertEqual([one("link"), two("link"), two.deeds], ["gap 7", "gap 1", 0])

    def test_the_text_read_back(self):
        desk = desk_of(*DUO, "promise a 2 50", "flow promise 4 : 4 6", "promise promise 4 90")
        self.assertEqual(read_gate(desk("gate").replace(" ; ", "\n")), desk.gate_now())
        for value in other_values(lambda value: isinstance(value, Desk)):
            self.assertIs(desk == value, False)
