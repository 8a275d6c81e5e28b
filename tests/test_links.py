"""creditturns.links: links, their flows, their orders, and their texts."""

from itertools import permutations

from creditturns.buckets import Bucket
from creditturns.errors import BadGap, BadLink, BadText, Known, NoFlow, TooMany
from creditturns.flows import Fed, FedSingle, Flow, Single, Spread
from creditturns.lengths import Lengths
from creditturns.links import Link
from creditturns.ratios import Ratio
from tests.helper import Case, any_values, is_from, other_values

A, B, C = Flow("a", 1, Lengths(1)), Single("b", 2, 3), Flow("c", 4, Lengths(4, 6))
FED = FedSingle("d", 3, 2, Bucket(9, 1, 6))
SIX = [Single(name, 1, 1) for name in "pqrstu"]


def is_flow(value):
    return isinstance(value, Flow)


class Making(Case):

    def test_flows_in_any_order(self):
        for flows in permutations([A, B, C]):
            link = Link(2, *flows)
            self.assertEqual(link.names, ("a", "b", "c"))
            self.assertEqual(list(link), [A, B, C])
            self.assertEqual(link, Link(2, A, B, C))
            self.assertEqual(str(link), "gap 2; a 1 : 1; b 2 : 3; c 4 : 4 6")
            self.assertEqual(link.others("b"), (A, C))

    def test_names_are_ordered_as_python_orders_them(self):
        flows = [Single(name, 1, 1) for name in ("b", "ab", "a", "ba", "aa", "zz")]
        self.assertEqual(Link(1, *flows).names, ("a", "aa", "ab", "b", "ba", "zz"))

    def test_gaps(self):
        for gap in (1, 2, 1000000):
            self.same(Link(gap, A).gap, gap)
            self.same(Link(gap=gap).gap, gap)
        for value in other_values(lambda value: is_from(value, 1, 1000000)) + [0, 1000001]:
            self.refuses(BadGap(value), Link, value)
            self.refuses(BadGap(value), Link, value, None, A, A)
            self.refuses(BadGap(value), Link(1, A).with_gap, value)

    def test_what_is_no_flow(self):
        for value in other_values(is_flow):
            self.refuses(BadLink("flow"), Link, 1, value)
            self.refuses(BadLink("flow"), Link, 1, A, A, value)
            self.refuses(BadLink("flow"), Link, 1, *SIX, A, value)

    def test_names_that_come_a_second_time(self):
        self.refuses(Known("a"), Link, 1, A, A)
        self.refuses(Known("b"), Link, 1, A, B, Single("b", 9, 9), A)
        self.refuses(Known("a"), Link, 1, A, B, A, B)
        self.refuses(Known("u"), Link, 1, *SIX, A, SIX[5])
        self.refuses(Known("p"), Link, 1, *SIX, SIX[0])

    def test_six_and_seven_flows(self):
        self.assertEqual(len(Link(1, *SIX)), 6)
        self.refuses(TooMany("flows", 6), Link, 1, *SIX, A)
        self.refuses(TooMany("flows", 6), Link, 1, *SIX, A, B, C)

    def test_flows_are_kept_as_they_are(self):
        link = Link(1, FED, B)
        self.assertIs(type(link["d"]), FedSingle)
        self.assertIs(type(link["b"]), Single)


class Looking(Case):

    def test_names_and_len(self):
        self.assertEqual([Link(1).names, Link(1, B, A).names], [(), ("a", "b")])
        self.assertEqual([len(Link(1)), len(Link(1, A)), len(Link(1, A, B, C))], [0, 1, 3])

    def test_cycle(self):
        for gap in (1, 7, 1000000):
            self.same(Link(gap).cycle, 0)
            self.same(Link(gap, B).cycle, 2 + gap)
            self.same(Link(gap, A, B, C).cycle, 7 + 3 * gap)

    def test_share(self):
        link = Link(3, A, B, C)
        self.assertIsInstance(link.share("b"), Ratio)
        self.assertEqual([str(link.share("a")), str(link.share(name="b")), str(link.share("c"))],
                         ["1/16", "1/8", "1/4"])

    def test_items(self):
        link = Link(3, A, B, C)
        self.assertEqual([link["a"], link["b"], link["c"]], [A, B, C])

    def test_in_of_any_value(self):
        link = Link(3, A, B)
        for value in any_values():
            self.assertIs(value in link, isinstance(value, str) and value in ("a", "b"))
        self.assertIs(A in link, False)

    def test_iteration(self):
        link = Link(3, C, A)
        self.assertEqual([flow.name for flow in link], ["a", "c"])
        self.assertEqual([list(link), list(link)], [[A, C], [A, C]])
        self.assertEqual(list(Link(3)), [])

    def test_others(self):
        link = Link(3, C, B, A)
        self.assertEqual([link.others("a"), link.others("b"), link.others(name="c")], [(B, C), (A, C), (A, B)])
        self.assertEqual(Link(3, A).others("a"), ())
        self.assertIs(type(link.others("a")), tuple)

    def test_what_is_no_name_of_a_flow(self):
        link = Link(3, C, B)
        for value in other_values(lambda value: isinstance(value, str) and value in ("b", "c")):
            for work in (link.others, link.share, lambda name: link[name], lambda name: link - name):
                self.refuses(NoFlow(value), work, value)

    def test_with_gap(self):
        link = Link(3, C, FED)
        self.assertEqual(link.with_gap(4), Link(4, C, FED))
        self.assertEqual(link.with_gap(gap=1000000).gap, 1000000)
        self.assertEqual(link.gap, 3)


class Operators(Case):

    def test_beside_the_others_and_in_the_place_of_one(self):
        link = Link(3, C, A)
        self.assertEqual(link | B, Link(3, A, B, C))
        self.assertEqual(link | Single("c", 1, 2), Link(3, A, Single("c", 1, 2)))
        self.assertEqual((link | Fed("a", 1, Lengths(1), Bucket(2, 1, 1)))["a"].bucket, Bucket(2, 1, 1))
        self.assertEqual(link, Link(3, A, C))
        self.assertEqual(Link(3) | A, Link(3, A))

    def test_without_one(self):
        link = Link(3, C, A)
        self.assertEqual([link - "a", link - "c", link - "c" - "a"], [Link(3, C), Link(3, A), Link(3)])
        self.assertEqual(link, Link(3, A, C))

    def test_seven_flows(self):
        link = Link(1, *SIX)
        self.refuses(TooMany("flows", 6), lambda: link | A)
        self.assertEqual((link | Single("r", 9, 9))["r"].quantum, 9)
        self.assertEqual(len(link | Single("r", 9, 9)), 6)

    def test_in_place(self):
        link = kept = Link(3, C)
        link |= A
        self.assertEqual(link, Link(3, A, C))
        link -= "c"
        self.assertEqual(link, Link(3, A))
        self.assertEqual(kept, Link(3, C))

    def test_other_values(self):
        for value in other_values(is_flow):
            self.refuses(BadLink("flow"), lambda: Link(1, A) | value)
            self.refuses(BadLink("flow"), lambda: Link(1, *SIX) | value)

    def test_orders_and_equality(self):
        flows = [A, B, C, Single("a", 1, 1), Single("a", 2, 1), Fed("a", 1, Lengths(1), Bucket(1, 1, 1)), None]
        links = [(gap, one, other) for gap in (1, 2) for one in flows for other in (B, Spread("b", 2, 3, 3), None)
                 if one is not B]
        for row in links:
            for further in links:
                one, other = (Link(gap, *[flow for flow in told if flow is not None]) for gap, *told in (row, further))
                told = {flow.name: str(flow) for flow in row[1:] if flow is not None}
                meant = {flow.name: str(flow) for flow in further[1:] if flow is not None}
                is_same = row[0] == further[0] and told == meant
                is_part = row[0] == further[0] and set(told.items()) <= set(meant.items())
                is_whole = row[0] == further[0] and set(told.items()) >= set(meant.items())
                self.assertIs(one == other, is_same)
                self.assertIs(one != other, not is_same)
                self.assertIs(one <= other, is_part)
                self.assertIs(one >= other, is_whole)
                self.assertIs(one < other, is_part and not is_same)
                self.assertIs(one > other, is_whole and not is_same)

    def test_orders_of_other_values(self):
        link = Link(1, A)
        for value in other_values(lambda value: isinstance(value, Link)):
            for work in (lambda: link <= value, lambda: link < value, lambda: link >= value, lambda: link > value):
                self.refuses(BadLink("other"), work)
            self.assertIs(link == value, False)
            self.assertIs(value == link, False)


class Texts(Case):

    def test_texts(self):
        self.assertEqual(str(Link(2)), "gap 2")
        self.assertEqual(str(Link(2, B, A)), "gap 2; a 1 : 1; b 2 : 3")
        self.assertEqual(str(Link(7, FED, C)), "gap 7; c 4 : 4 6; d 3 : 2 : 9 1 6")

    def test_read_what_was_written(self):
        for link in (Link(1), Link(1000000, A), Link(3, FED, C, B, A), Link(5, *SIX)):
            found = Link.read(str(link))
            self.assertEqual(found, link)
            self.assertEqual(str(found), str(link))
            self.assertEqual(found.names, link.names)
        self.assertEqual(Link.read(text="gap 2"), Link(2))
        self.assertIsInstance(Link.read("gap 2; d 3 : 2 : 9 1 6")["d"], Fed)

    def test_words_are_counted_in_the_whole_text(self):
        for text, word in (
                ("", 0), (" ", 0), ("gap", 1), ("gap ", 1), ("gap 0", 1), ("gap 1000001", 1), ("gap 01", 1),
                ("Gap 1", 0), ("1", 0), ("gap a", 1), (" gap 1", 0), ("gap  1", 1), ("gap 1 ", 2), ("gap 1 2", 2),
                ("gap 1;", 2), ("gap;", 1), ("gap; 1", 1), ("gap 1 ; a 1 : 1", 2), ("gap 1;; a 1 : 1", 1),
                ("gap 1;a 1 : 1", 1), ("gap 1; ", 2), ("gap 1;  a 1 : 1", 2), ("gap ; a 1 : 1", 1), (";", 0),
                ("gap 1\n", 1), ("gap 1; A 1 : 1", 2), ("gap 1; a", 3), ("gap 1; a;", 3), ("gap 1; a 1", 4),
                ("gap 1; a 1; b 2 : 3", 4), ("gap 1; a 1 :; b 2 : 3", 5), ("gap 1; a 1 : 1 :; b 2 : 3", 7),
                ("gap 1; a 1 : 1;", 6), ("gap 1; a 1 : 1; ", 6), ("gap 1; a 1 : 1 ", 6), ("gap 1; a 1 : 1 1", 6),
                ("gap 1; a 0 : 1; B", 3), ("gap 1; a 1 : 0", 5), ("gap 1; a 1 : 2 1; b 2 : 3", 6),
                ("gap 1; b 2 : 3; a 1 : 1", 6), ("gap 1; a 1 : 1; a 1 : 1", 6), ("gap 1; ab 1 : 1; aa 1 : 1", 6),
                ("gap 1; b 2 : 3; a 0 : 1", 6), ("gap 1; b 2 : x; a 1 : 1", 5), ("gap 1; a 1 : 1; b 2 : 3 x", 10),
                ("gap 1; a 1 : 1; b 2 x 3", 8), ("gap 1; a 1 : 1 : 1 1 1 1; b 2 : 3", 10), ("gap x; a", 1),
                ("gap 1; a 1 : 3 : 2 1 1; b 2 : 3", 7), ("gap 1; a 1 : 3 : 3 2 1", 8), ("gap 1; a 1 : 3 : 3 1;", 9),
                ("gap 1; a 1 : 1;; b 2 : 3", 5), ("gap 1; a 1 : 1 ; b 2 : 3", 6), ("gap 1; a;1 : 1", 2),
                ("gap 1, a 1 : 1", 1), ("gap 1; a 1 : 1\ngap 1", 5), ("gap " + "9" * 4900, 1)):
            self.refuses(BadText(0, word), Link.read, text)

    def test_each_word_that_flow_read_tells(self):
        flows = ["a 1 : 1", "b 2 : 3 5", "c 9 : 4 6 : 9 1 6"]
        for at in range(3):
            words = flows[at].split(" ")
            start = 2 + sum(len(text.split(" ")) for text in flows[:at])
            for place in range(len(words)):
                for word in ([], ["x"], ["0"], [":"], [""], ["60", "60"], ["1000001"], ["zz"]):
                    text = " ".join(words[:place] + word + words[place + 1:])
                    self.look("; ".join(["gap 1"] + flows[:at] + [text] + flows[at + 1:]), text, start)
                text = " ".join(words[:place])
                if text:
                    self.look("; ".join(["gap 1"] + flows[:at] + [text] + flows[at + 1:]), text, start)

    def look(self, whole, text, start):
        try:
            Flow.read(text)
        except BadText as fault:
            self.refuses(BadText(0, start + fault.word), Link.read, whole)

    def test_the_name_of_a_seventh_flow(self):
        text = str(Link(1, *SIX))
        self.refuses(BadText(0, 26), Link.read, text + "; z 1 : 1")
        self.refuses(BadText(0, 26), Link.read, text + "; z x")
        self.refuses(BadText(0, 26), Link.read, text + "; a 1 : 1")
        self.refuses(BadText(0, 26), Link.read, text + ";")
        self.refuses(BadText(0, 26), Link.read, text + "; z 1 : 1; zz 1 : 1")

    def test_what_is_no_string(self):
        for value in other_values(lambda value: isinstance(value, str)):
            self.refuses(BadText(0, 0), Link.read, value)
