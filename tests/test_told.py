"""creditturns.told: quanta told back from stretches, against a look at each quantum and each turn."""

import random

from creditturns.errors import BadTurns
from creditturns.flows import Flow
from creditturns.lengths import Lengths
from creditturns.links import Link
from creditturns.plays import Arrival, Play
from creditturns.told import Clash, Quanta, quanta, shows_quanta
from tests.drawn import drawn_links, drawn_play
from tests.helper import Case, any_values, other_values

FAST, SLOW = ((3,), (3, 3)), ((), (3,), (3,))


def fits(stretch, at, quantum):
    """Whether the packets up to the end of a turn all fit."""
    return sum(length for turn in stretch[:at + 1] for length in turn) <= (at + 1) * quantum


def next_fits(stretch, at, quantum):
    """Whether the next packet of the stretch would fit in this turn, too."""
    behind = [length for turn in stretch[at + 1:] for length in turn]
    ahead = sum(length for turn in stretch[:at + 1] for length in turn)
    return len(behind) > 0 and ahead + behind[0] <= (at + 1) * quantum


def bars(stretch, at, quantum):
    return not fits(stretch, at, quantum) or next_fits(stretch, at, quantum)


def plain_quanta(stretches, most=180):
    """The fields of the Quanta or the Clash: quanta from 1 to a great one that stands for all greater ones."""
    places = [(one, at) for one, stretch in enumerate(stretches) for at in range(len(stretch))]
    tables = {(one, at): [bars(stretches[one], at, quantum) for quantum in range(1, most + 1)] for one, at in places}
    good = [quantum for quantum in range(1, most + 1) if not any(tables[place][quantum - 1] for place in places)]
    if good:
        last = None if good[-1] == most else good[-1]
        return (good[0], last, None if good[0] == 1 else first_with(places, tables, good[0] - 1, good[0]),
                None if last is None else first_with(places, tables, last + 1, last + 2))
    least = max(min(quantum for quantum in range(1, most + 1) if fits(stretches[one], at, quantum)) for one, at in places)
    greatest = min([max([0, *[quantum for quantum in range(1, most + 1) if not next_fits(stretches[one], at, quantum)]])
                    for one, at in places])
    return (None if least == 1 else first_with(places, tables, 1, least),
            first_with(places, tables, greatest + 1, most + 1))


def first_with(places, tables, first, end):
    """The first place whose turn bars all quanta from first on, ahead of end."""
    return [place for place in places if all(tables[place][first - 1:end - 1])][0]


def fields_of(paper):
    return tuple(vars(paper).values())


def stretches_of(play, name):
    """The stretches of a flow in the log of a play, turn by turn."""
    rows = [[]]
    for turn in play.log:
        if turn.name == name:
            rows[-1].append(turn.lengths)
            if turn.is_left:
                rows.append([])
    return rows[:-1]


def drawn_stretch(told, lengths):
    rows = [tuple(told.choice(lengths) for _ in range(told.choice((0, 0, 1, 1, 2, 3)))) for _ in range(told.randrange(5))]
    return [*rows, (told.choice(lengths),) * told.randrange(1, 3)]


class Tells(Case):

    def look(self, *stretches):
        found = quanta(*stretches)
        right = plain_quanta(stretches)
        self.assertIs(type(found), Quanta if len(right) == 4 else Clash)
        self.assertEqual(fields_of(found), right)
        self.assertIs(bool(found), len(right) == 4)
        for value in fields_of(found):
            self.assertIn(type(value), (int, tuple, type(None)))
        self.assertIs(shows_quanta(found, *stretches), True)
        self.assertIs(shows_quanta(type(found)(*right), *[tuple(stretch) for stretch in stretches]), True)
        return found

    def test_by_hand(self):
        self.assertEqual(quanta(), Quanta(1, None, None, None))
        self.assertEqual(quanta(FAST), Quanta(5, 5, (0, 1), (0, 0)))
        self.assertEqual(quanta(SLOW), Quanta(2, 2, (0, 1), (0, 0)))
        self.assertEqual(quanta(((3,),)), Quanta(3, None, (0, 0), None))
        self.assertEqual(quanta(((1,),)), Quanta(1, None, None, None))
        self.assertEqual(quanta(FAST, SLOW), Clash((0, 1), (1, 0)))
        self.assertEqual(quanta(SLOW, FAST), Clash((1, 1), (0, 0)))
        self.assertEqual(quanta([(), (1,)]), Clash(None, (0, 0)))
        for stretches in ((FAST,), (SLOW,), (((3,),),), (FAST, SLOW), (SLOW, FAST), ([(), (1,)],)):
            self.look(*stretches)

    def test_truth(self):
        self.assertIs(bool(quanta(FAST)), True)
        self.assertIs(bool(quanta(FAST, SLOW)), False)
        for value in any_values():
            self.assertIs(bool(Quanta(value, value, value, value)), True)
            self.assertIs(bool(Clash(value, value)), False)

    def test_bounds_above_1000(self):
        packets = (60,) * 40
        self.assertEqual(quanta((packets,)), Quanta(2400, None, (0, 0), None))
        self.assertEqual(quanta((packets, (60,))), Quanta(2400, 2459, (0, 0), (0, 0)))
        self.assertEqual(quanta([packets, (60,) * 41, (1,)]), Quanta(2430, 2430, (0, 1), (0, 1)))
        self.assertIs(shows_quanta(Quanta(2400, None, (0, 0), None), (packets,)), True)

    def test_first_turns_that_bar(self):
        # The turns 1 and 3 both bar 2; the turns 0 and 2 both bar 4.
        self.assertEqual(self.look(((3,), (3,), (3,))), Quanta(3, 4, (0, 0), (0, 1)))
        self.assertEqual(self.look(((1,),), ((3,),), ((3,),)), Quanta(3, None, (1, 0), None))
        self.assertEqual(self.look(((3,), (3,)), ((3,), (3,))), Quanta(3, 5, (0, 0), (0, 0)))
        self.assertEqual(self.look(((1,),), ((2,), (3,)), ((2,), (3,))), Quanta(3, 4, (1, 1), (1, 0)))

    def test_turns_that_bar_all_quanta_alone(self):
        # Behind the turn 1 of the first stretch a packet of 1 waits, which any quantum lets go in it.
        self.assertEqual(self.look(((1,), (), (1, 9, 9))), Clash((0, 1), (0, 1)))
        self.assertEqual(self.look(((9,), (1,)), ((1,), (), (1,))), Clash((0, 0), (1, 1)))
        # In the turn 2 the 10 bits ask for 4 at least, and the 2 bits behind them, which do not fit, for at most 3.
        self.assertEqual(self.look(((), (), (5, 5), (2,), (9, 9, 9, 9, 9))), Clash((0, 2), (0, 1)))

    def test_drawn_stretches(self):
        told = random.Random(1)
        seen = {}
        for _ in range(800):
            lengths = told.choice(((1,), (3,), (2, 5), (1, 2, 3), (4, 6, 40)))
            found = self.look(*[drawn_stretch(told, lengths) for _ in range(told.randrange(1, 4))])
            seen[type(found)] = seen.get(type(found), 0) + 1
        self.assertGreater(min(seen.values()), 100)

    def test_stretches_of_drawn_plays(self):
        told = random.Random(2)
        seen = 0
        for link in drawn_links(61, 60):
            play = drawn_play(told, link)
            for name in link.names:
                stretches = stretches_of(play, name)
                self.assertEqual(len(stretches), len(play.stretches(name)))
                found = self.look(*stretches)
                self.assertIs(type(found), Quanta)
                self.assertLessEqual(found.least, link[name].quantum)
                self.assertTrue(found.most is None or link[name].quantum <= found.most)
                seen += found.least == found.most
        self.assertGreater(seen, 15)

    def test_stretches_with_two_quanta(self):
        told = random.Random(3)
        seen = set()
        for _ in range(80):
            lengths = Lengths(*told.choice(((1,), (3,), (2, 5), (7, 9))))
            rows = []
            for quantum in (told.randrange(1, 9), told.randrange(1, 9)):
                link = Link(1, Flow("a", quantum, lengths))
                packets = [Arrival(0, "a", told.choice(lengths.numbers)) for _ in range(told.randrange(2, 9))]
                rows += stretches_of(Play(link, packets), "a")
            seen.add(type(self.look(*rows)))
        self.assertEqual(seen, {Quanta, Clash})

    def test_lists_and_tuples_and_no_change(self):
        rows = [[(3,), (3, 3)], [(), (3,), (3,)]]
        self.assertEqual(quanta(*rows), Clash((0, 1), (1, 0)))
        self.assertEqual(rows, [[(3,), (3, 3)], [(), (3,), (3,)]])
        self.assertEqual(quanta(rows[0], SLOW), Clash((0, 1), (1, 0)))


class Shows(Case):

    def look(self, right, *stretches):
        """Only this paper is shown, and none that differs in a value or in its kind."""
        fields = list(vars(right))
        self.assertIs(shows_quanta(right, *stretches), True)
        self.assertIs(shows_quanta(type(right)(**vars(right)), *stretches), True)
        for value in other_values(lambda value: isinstance(value, type(right))):
            self.assertIs(shows_quanta(value, *stretches), False)
        for at, field in enumerate(fields):
            for value in [*any_values(), (0, 0), (0, 1), (1, 0), (False, True), (0, 1, 0), [0, 1], (True, False), (0, 2)]:
                row = [value if other == field else getattr(right, other) for other in fields]
                is_right = type(value) is type(getattr(right, field)) and value == getattr(right, field)
                if is_right and isinstance(value, tuple):
                    is_right = [type(one) for one in value] == [int, int]
                self.assertIs(shows_quanta(type(right)(*row), *stretches), is_right)

    def test_kind_by_kind(self):
        self.look(Quanta(1, None, None, None))
        self.look(Quanta(1, None, None, None), ((1,),))
        self.look(Quanta(5, 5, (0, 1), (0, 0)), FAST)
        self.look(Quanta(1, 1, None, (0, 0)), ((1,), (1,)))
        self.look(Clash((0, 1), (1, 0)), FAST, SLOW)
        self.look(Clash(None, (0, 0)), ((), (1,)))

    def test_true_for_1_and_lists_for_tuples(self):
        self.assertIs(shows_quanta(Quanta(True, 1, None, (0, 0)), ((1,), (1,))), False)
        self.assertIs(shows_quanta(Quanta(1, 1, None, (False, 0)), ((1,), (1,))), False)
        self.assertIs(shows_quanta(Quanta(1, 1, None, [0, 0]), ((1,), (1,))), False)
        self.assertIs(shows_quanta(value=Clash(None, (0, 0))), False)
        self.assertIs(shows_quanta(Quanta(5, 5, (0, 1), (0, 0)), SLOW), False)


class Errors(Case):

    def test_what_is_no_stretch(self):
        wrong = [[], (), [()], [(1,), ()], ((1,), ()), [[1]], [(1,), [1]], [(True,)], [(0,)], [(61,)], [(1, None)], ["a"],
                 [(1, "a")], [(1.0,)], {(1,): (1,)}, [None], [1], "a", b"a", [(1,), None, (1,)], ((1, -1),), [(10 ** 30,)]]
        for value in [*wrong, *other_values(lambda value: isinstance(value, (list, tuple)))]:
            for work in (quanta, lambda *rows: shows_quanta(None, *rows), lambda *rows: shows_quanta(Clash(None, None), *rows)):
                self.refuses(BadTurns(0), work, value)
                self.refuses(BadTurns(1), work, FAST, value)
                self.refuses(BadTurns(2), work, FAST, SLOW, value, FAST, value)

    def test_lists_that_are_none(self):
        for value in any_values():
            if isinstance(value, (list, tuple)):
                self.refuses(BadTurns(0), quanta, value)
        self.assertTrue(quanta([(1,)]))
        self.assertTrue(quanta([(60, 1)]))


class Papers(Case):

    def test_papers(self):
        for made, fields in ((Quanta, ["least", "most", "low", "high"]), (Clash, ["low", "high"])):
            self.keeps_any_values(made, fields)
            self.compares_as_a_paper(made, fields)
        self.assertIs(Clash(1, 2) == Quanta(1, 2, 1, 2), False)
        self.assertEqual(len([value for value in any_values()
                              if value in (Quanta(7, None, None, None), Clash(None, None))]), 2)
