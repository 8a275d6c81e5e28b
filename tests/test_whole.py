"""The whole program: what is told of one link by all roads agrees, and so do texts, plays, lines, gates and the desk."""

import random

from creditturns.aparts import apart, widest
from creditturns.chosen import greatest_quantum, least_quantum
from creditturns.compared import alike, harms, later
from creditturns.delays import delay
from creditturns.desk import Desk
from creditturns.errors import Broken, Grows, Late, NoQuantum, TooMany
from creditturns.flows import Fed, Flow
from creditturns.buckets import Bucket
from creditturns.gates import Gate, Promise
from creditturns.keeps import keeps, lead, shows_lead
from creditturns.leasts import leasts, shows_leasts
from creditturns.lines import Line
from creditturns.links import Link
from creditturns.lookers import Looker
from creditturns.mosts import least, most, shows_least, shows_most
from creditturns.plays import Arrival, Play
from creditturns.reader import read_gate, read_play, read_turns
from creditturns.services import service, until
from creditturns.texts import gate_text, play_text, turns_text
from creditturns.told import Quanta, quanta, shows_quanta
from creditturns.waits import latest
from creditturns.worsts import worst
from tests.drawn import drawn_flow, drawn_links, drawn_play
from tests.helper import Case


def gate_of(link, *promises):
    gate = Gate(link.gap)
    for flow in link:
        gate.let_in(flow)
    for promise in promises:
        gate.give(promise)
    return gate


def desk_of(link):
    desk = Desk()
    desk.run(f"gap {link.gap}", *[f"flow {flow}" for flow in link])
    return desk


class Roads(Case):
    """A link told by all roads."""

    def setUp(self):
        self.told = random.Random(11)

    def test_latest_and_all_that_follows_from_it(self):
        for link in drawn_links(91, 120, longest=20):
            name = self.told.choice(link.names)
            flow = link[name]
            bits = flow.lengths.ceiling(self.told.choice((1, 3, 8, 20, 70)))
            paper = latest(link, name, bits)
            self.assertEqual(paper.turn, flow.turn_of(bits))
            self.assertEqual(paper.mosts, {other.name: most(other, paper.turn).bits for other in link.others(name)})
            self.assertEqual(paper.ticks, bits + paper.turn * len(link) * link.gap + sum(paper.mosts.values()))
            self.look_at_play(link, name, bits, paper)
            self.look_at_service(link, name, bits, paper)
            self.look_at_gate(link, name, bits, paper)
            self.look_at_quanta(link, name, bits, paper)
            self.look_at_desk(link, name, bits, paper)

    def look_at_play(self, link, name, bits, paper):
        looker = Looker(link)
        self.assertIs(looker.latest(paper, name, bits), True)
        try:
            found = worst(link, name, bits)
        except TooMany:
            return
        self.assertEqual(found.play.delay(name, found.number), paper.ticks)
        self.assertIs(looker.worst(found, name, bits), True)
        for stretch in found.play.stretches(name):
            for one in stretch:
                self.assertLessEqual(one.ended - stretch[0].came, latest(link, name, one.bits).ticks)
                self.assertEqual(one.turn, link[name].turn_of(one.bits))

    def look_at_service(self, link, name, bits, paper):
        bound = until(link, name, bits - 1) + 1
        self.assertLessEqual(paper.ticks, bound)
        if len(link[name].lengths) == 1:
            self.assertEqual(paper.ticks, bound)
        for ticks in (paper.ticks - 1, paper.ticks, bound, bound + 1):
            sent = service(link, name, ticks)
            self.assertGreaterEqual(until(link, name, sent), ticks)
            self.assertTrue(sent == 0 or until(link, name, sent - 1) < ticks)
            self.assertIs(Looker(link).service(sent, name, ticks), True)
        self.assertGreaterEqual(service(link, name, bound), bits)

    def look_at_gate(self, link, name, bits, paper):
        gate = gate_of(link, Promise(name, bits, paper.ticks))
        self.assertEqual(gate.spare(Promise(name, bits, paper.ticks + 3)), 3)
        caught = self.refuses(Broken(Promise(name, bits, paper.ticks - 1)), gate.give, Promise(name, bits, paper.ticks - 1))
        self.assertEqual((type(caught.__cause__), caught.__cause__.ticks), (Late, paper.ticks))
        self.refuses(Broken(Promise(name, bits, paper.ticks)), gate.set_gap, link.gap + 1)
        self.assertEqual((gate.link, gate.deeds), (link, len(link) + 1))

    def look_at_quanta(self, link, name, bits, paper):
        chosen = least_quantum(link, name, bits, paper.ticks)
        self.assertLessEqual(chosen.quantum, link[name].quantum)
        self.assertLessEqual(chosen.ticks, paper.ticks)
        less = link | link[name].with_quantum(chosen.quantum)
        self.assertEqual(latest(less, name, bits).ticks, chosen.ticks)
        if chosen.before is not None:
            less = link | link[name].with_quantum(chosen.quantum - 1)
            self.assertEqual((latest(less, name, bits).ticks, chosen.before > paper.ticks), (chosen.before, True))

    def look_at_desk(self, link, name, bits, paper):
        desk, flow = desk_of(link), link[name]
        self.assertEqual(desk("link"), str(link))
        self.assertEqual(desk(f"latest {name} {bits}"), str(paper.ticks))
        self.assertEqual(desk(f"most {name} {paper.turn}"), str(flow(paper.turn)))
        self.assertEqual(desk(f"fewest {name} {paper.turn}"), str(flow.fewest(paper.turn)))
        self.assertEqual(desk(f"service {name} {paper.ticks}"), str(service(link, name, paper.ticks)))
        self.assertEqual(desk(f"until {name} {bits}"), str(until(link, name, bits)))
        self.assertEqual(desk(f"chosen {name} {bits} {paper.ticks}"),
                         str(least_quantum(link, name, bits, paper.ticks).quantum))
        self.assertEqual(desk(f"spare {name} {bits} {paper.ticks}"), "0")
        self.assertEqual(desk(f"promise {name} {bits} {paper.ticks - 1}"), f"broken {name} {bits} {paper.ticks - 1}")
        self.assertEqual(desk(f"promise {name} {bits} {paper.ticks}"), "ok")

    def test_flows(self):
        for _ in range(120):
            flow = drawn_flow(self.told, "a", 30)
            turns = self.told.randrange(12)
            self.assertEqual((most(flow, turns).bits, least(flow, turns).bits), (flow(turns), flow.fewest(turns)))
            self.assertTrue(shows_most(flow, turns, most(flow, turns)) and shows_least(flow, turns, least(flow, turns)))
            self.assertTrue(shows_leasts(flow.lengths, leasts(flow.lengths)))
            if turns:
                self.assertIn(most(flow, turns).credit, keeps(flow))
                self.assertIn(least(flow, turns).credit, keeps(flow))
            for credit in keeps(flow):
                self.assertTrue(shows_lead(flow, credit, lead(flow, credit)))

    def test_a_flow_that_does_not_harm(self):
        seen = {True: 0, False: 0}
        for link in drawn_links(92, 150, least=2):
            name = self.told.choice(link.names)
            flow = drawn_flow(self.told, name)
            other = self.told.choice(link.others(name)).name
            paper = harms(flow, link[name])
            seen[paper is None] += 1
            try:
                found = later(link | flow, link, other)
                same = alike(link | flow, link, other)
            except TooMany:
                continue
            if paper is None:
                self.assertIs(found, None)
            if found is None:
                gate = gate_of(link, *[Promise(other, bits, latest(link, other, bits).ticks)
                                       for bits in range(1, 30) if link[other].lengths.has(bits)])
                gate.leave(name)
                gate.let_in(flow)
                self.assertEqual(same, later(link, link | flow, other) is None)
            else:
                self.assertEqual([latest(one, other, found.bits).ticks for one in (link | flow, link)],
                                 [found.ticks, found.less])
                gate = gate_of(link, Promise(other, found.bits, found.less))
                gate.leave(name)
                caught = self.refuses(Broken(Promise(other, found.bits, found.less)), gate.let_in, flow)
                self.assertEqual(caught.__cause__.ticks, found.ticks)
        self.assertGreater(min(seen.values()), 30)

    def test_the_greatest_quantum_and_a_gate(self):
        seen = 0
        for link in drawn_links(93, 60):
            if len(link) == 6:
                continue
            name = self.told.choice(link.names)
            bits = link[name].longest
            promise = Promise(name, bits, latest(link, name, bits).ticks + self.told.randrange(3, 300))
            lengths = drawn_flow(self.told, "x").lengths
            gate = gate_of(link, promise)
            try:
                room = greatest_quantum(link, lengths, gate.promises)
            except NoQuantum:
                self.refuses(Broken(promise), gate.let_in, Flow("x", 1, lengths))
                continue
            gate.let_in(Flow("x", room.quantum, lengths))
            if room.promise is not None:
                seen += 1
                caught = self.refuses(Broken(room.promise), gate.set_quantum, "x", room.quantum + 1)
                self.assertEqual(caught.__cause__.ticks, room.ticks)
        self.assertGreater(seen, 10)

    def test_two_flows(self):
        for link in drawn_links(94, 60, least=2, longest=6):
            paper = apart(link["a"], link["b"])
            looker = Looker(link)
            self.assertIs(looker.apart(paper, "a", "b"), True)
            self.assertEqual(desk_of(link)("apart a b"), f"{paper.number} {paper.turns}")
            self.assertEqual(paper.ratio * link["a"].quantum * link["b"].quantum, paper.number)
            try:
                found = widest(link, "a", "b")
            except TooMany:
                continue
            self.assertIs(looker.widest(found, "a", "b"), True)
            self.assertEqual(read_play(play_text(found.play)), found.play)

    def test_delays(self):
        seen = {True: 0, False: 0}
        for link in drawn_links(95, 80):
            rate = self.told.choice((1, 2, 3))
            every = max(1, rate * link.cycle // link["a"].quantum + self.told.choice((-1, 0, 1, 4)))
            flow = Fed("a", link["a"].quantum, link["a"].lengths, Bucket(link["a"].longest + rate, rate, min(1000, every)))
            desk, looker = desk_of(link | flow), Looker(link | flow)
            words = desk("delay a").split(" ")
            try:
                paper = delay(link | flow, "a")
            except Grows as caught:
                seen[False] += 1
                self.assertIs(looker.grows(caught.__cause__.paper, "a"), True)
                self.assertEqual(words, ["grows", *[str(value) for value in vars(caught.__cause__.paper).values()]])
                continue
            seen[True] += 1
            self.assertIs(looker.delay(paper, "a"), True)
            self.assertEqual(words, [str(paper.ticks), str(paper.bits)])
            late = latest(link, "a", paper.bits).ticks - flow.bucket.earliest(paper.bits)
            self.assertEqual(paper.ticks, late)
        self.assertGreater(min(seen.values()), 10)


class Things(Case):
    """Texts, plays, lines, logs, quanta told back, the desk and the gate."""

    def setUp(self):
        self.told = random.Random(12)

    def line_of(self, play):
        line = Line(play.link)
        for one in play.arrivals:
            line.go(one.moment - line.now)
            line.put(one.name, one.length)
        line.run()
        return line

    def test_plays_lines_logs_and_texts(self):
        for link in drawn_links(96, 60, longest=20):
            play = drawn_play(self.told, link)
            line = self.line_of(play)
            self.assertEqual((line.log, line.sent, line.arrivals), (play.log, play.sent, play.arrivals))
            again = read_play(play_text(play))
            self.assertEqual((again, again.log), (play, read_turns(turns_text(line.log))))
            self.assertEqual(Play(Link.read(str(link)), line.arrivals), play)

    def test_quanta_told_back_from_logs(self):
        for link in drawn_links(97, 60):
            play = drawn_play(self.told, link)
            turns = read_turns(turns_text(play.log))
            for flow in link:
                stretches, rows = [], []
                for turn in turns:
                    if turn.name == flow.name:
                        rows.append(turn.lengths)
                        if turn.is_left:
                            stretches, rows = stretches + [rows], []
                found = quanta(*stretches)
                self.assertIs(type(found), Quanta)
                self.assertTrue(found.least <= flow.quantum and (found.most is None or flow.quantum <= found.most))
                self.assertIs(shows_quanta(found, *stretches), True)
                for quantum in {found.least, found.most or found.least + 5}:
                    if 1 <= quantum <= 1000:
                        self.look_at_other_quantum(flow.with_quantum(quantum), stretches)

    def look_at_other_quantum(self, flow, stretches):
        """With each of the quanta a line sends the same in each turn."""
        for stretch in stretches:
            packets = [Arrival(0, flow.name, length) for turn in stretch for length in turn]
            self.assertEqual([turn.lengths for turn in Play(Link(1, flow), packets)], stretch)

    def test_gates_desks_and_texts(self):
        for link in drawn_links(98, 60, longest=20):
            desk, gate = desk_of(link), gate_of(link)
            for _ in range(4):
                name = self.told.choice(link.names)
                bits = link[name].lengths.ceiling(self.told.randrange(1, 20))
                promise = Promise(name, bits, latest(link, name, bits).ticks + self.told.randrange(3))
                gate.give(promise)
                self.assertEqual(desk(f"promise {promise}"), "ok")
            self.assertEqual(desk.gate_now(), gate)
            self.assertEqual(read_gate(gate_text(gate)), desk.gate_now())
            self.assertEqual(desk("gate"), gate_text(gate).replace("\n", " ; "))
            rows = gate_text(gate).split("\n")
            other = Desk()
            other.run(*[row if row.startswith("promise") else f"flow {row}" for row in rows[1:]])
            self.assertEqual(other("gap " + rows[0].split(" ")[1]) == "ok", other.gate_now() == gate)
            while gate.deeds > len(link):
                self.assertEqual(desk("undo"), gate.undo())
                self.assertEqual(desk.gate_now(), gate)

    def test_a_line_of_the_gate_keeps_its_promises(self):
        for link in drawn_links(99, 40):
            promises = [Promise(name, bits, latest(link, name, bits).ticks) for name in link.names
                        for bits in {link[name].longest, link[name].lengths.ceiling(9)}]
            gate = gate_of(link, *promises)
            play = drawn_play(self.told, gate.link)
            for promise in gate.promises:
                for stretch in play.stretches(promise.name):
                    for one in stretch:
                        if one.bits <= promise.bits:
                            self.assertLessEqual(one.ended - stretch[0].came, promise.ticks)
