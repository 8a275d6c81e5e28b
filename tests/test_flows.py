"""creditturns.flows: the six classes, their numbers against plain sums, and their texts."""

from math import gcd

from creditturns.buckets import Bucket
from creditturns.errors import BadBucket, BadFlow, BadLengths, BadName, BadNumber, BadQuantum, BadText
from creditturns.flows import Fed, FedSingle, FedSpread, Flow, Single, Spread
from creditturns.lengths import Lengths
from tests.helper import Case, any_values, is_from, is_name, other_values, sums_up_to

WIDE = Bucket(1000, 1, 6)
SETS = [(1,), (3,), (4, 6), (2, 5), (6, 10, 15), (4, 10, 12), (7, 9), (1, 60), (60,), (30, 42, 60), (13, 17, 60)]


def one_of_each():
    return [
        Flow("a", 4, Lengths(3)), Single("a", 4, 3), Spread("a", 4, 3, 3),
        Fed("a", 4, Lengths(3), WIDE), FedSingle("a", 4, 3, WIDE), FedSpread("a", 4, 3, 3, WIDE),
    ]


def is_length(value):
    return is_from(value, 1, 60)


class Making(Case):

    def test_attributes_by_position_and_by_name(self):
        lengths = Lengths(2, 3, 4)
        for made in (Flow("abc", 7, lengths), Flow(lengths=lengths, quantum=7, name="abc"),
                     Spread("abc", 7, 2, 4), Spread(high=4, low=2, quantum=7, name="abc"),
                     Fed("abc", 7, lengths, WIDE), Fed(bucket=WIDE, lengths=lengths, quantum=7, name="abc"),
                     FedSpread("abc", 7, 2, 4, WIDE), FedSpread(bucket=WIDE, high=4, low=2, quantum=7, name="abc")):
            self.assertEqual((made.name, made.quantum, made.lengths), ("abc", 7, lengths))
        for made in (Single("abc", 7, 3), Single(length=3, quantum=7, name="abc"), FedSingle("abc", 7, 3, WIDE),
                     FedSingle(bucket=WIDE, length=3, quantum=7, name="abc")):
            self.assertEqual((made.name, made.quantum, made.lengths), ("abc", 7, Lengths(3)))

    def test_bounds(self):
        self.assertEqual(Flow("abcdefgh", 1000, Lengths(60)).quantum, 1000)
        self.assertEqual(Spread("z", 1, 1, 60).lengths, Lengths.between(1, 60))
        self.assertEqual(Spread("z", 1, 60, 60).lengths, Lengths(60))

    def test_bases(self):
        self.assertEqual(Flow.__bases__, (object,))
        self.assertEqual((Single.__bases__, Spread.__bases__, Fed.__bases__), ((Flow,), (Flow,), (Flow,)))
        for made, above in ((FedSingle, Single), (FedSpread, Spread)):
            self.assertTrue(issubclass(made, above) and issubclass(made, Fed))
        self.assertFalse(issubclass(FedSingle, Spread) or issubclass(FedSpread, Single))

    def test_the_most(self):
        for flow in one_of_each():
            self.same(flow.MOST, 1000)
        self.same(Flow.MOST, 1000)

    def test_the_bucket(self):
        for flow in one_of_each():
            self.assertIs(hasattr(flow, "bucket"), isinstance(flow, Fed))
            if isinstance(flow, Fed):
                self.assertEqual(flow.bucket, WIDE)
                self.assertIsInstance(type(flow).bucket, property)


class Errors(Case):
    """Each class, and of several errors the one that is listed first."""

    def test_names_and_quanta_of_each_class(self):
        made = {Flow: (Lengths(1),), Single: (1,), Spread: (1, 2), Fed: (Lengths(1), WIDE), FedSingle: (1, WIDE),
                FedSpread: (1, 2, WIDE)}
        for build, rest in made.items():
            for value in other_values(is_name) + ["\u00e9", "a\u00e9", "a-", "aB", "\u00df"]:
                self.refuses(BadName(value), build, value, 1, *rest)
                self.refuses(BadName(value), build, value, 0, *[None for _ in rest])
            for value in other_values(lambda value: is_from(value, 1, 1000)):
                self.refuses(BadQuantum(value), build, "a", value, *rest)
                self.refuses(BadQuantum(value), build, "a", value, *[None for _ in rest])

    def test_lengths(self):
        for value in other_values(lambda value: isinstance(value, Lengths)):
            self.refuses(BadLengths("lengths"), Flow, "a", 1, value)
            self.refuses(BadLengths("lengths"), Fed, "a", 1, value, WIDE)
            self.refuses(BadLengths("lengths"), Fed, "a", 1, value, None)

    def test_single_lengths(self):
        for value in other_values(is_length):
            self.refuses(BadNumber(value), Single, "a", 1, value)
            self.refuses(BadNumber(value), FedSingle, "a", 1, value, WIDE)
            self.refuses(BadNumber(value), FedSingle, "a", 1, value, None)

    def test_spread_lengths(self):
        for value in other_values(is_length):
            self.refuses(BadNumber(value), Spread, "a", 1, value, 60)
            self.refuses(BadNumber(value), Spread, "a", 1, 1, value)
            self.refuses(BadNumber(value), Spread, "a", 1, value, "high")
            self.refuses(BadNumber(value), FedSpread, "a", 1, value, None, None)
            self.refuses(BadNumber(value), FedSpread, "a", 1, 1, value, None)
        self.refuses(BadFlow("high"), Spread, "a", 1, 2, 1)
        self.refuses(BadFlow("high"), FedSpread, "a", 1, 60, 59, None)

    def test_buckets(self):
        for value in other_values(lambda value: isinstance(value, Bucket)):
            self.refuses(BadFlow("bucket"), Fed, "a", 1, Lengths(3), value)
            self.refuses(BadFlow("bucket"), FedSingle, "a", 1, 3, value)
            self.refuses(BadFlow("bucket"), FedSpread, "a", 1, 1, 3, value)

    def test_buckets_that_do_not_fit(self):
        for bucket in (Bucket(2, 1, 1), Bucket(3, 2, 9), Bucket(5, 4, 1)):
            self.refuses(BadBucket("burst"), Fed, "a", 1, Lengths(1, 3), bucket)
            self.refuses(BadBucket("burst"), FedSingle, "a", 1, 3, bucket)
            self.refuses(BadBucket("burst"), FedSpread, "a", 1, 1, 3, bucket)
        for bucket in (Bucket(3, 1, 1), Bucket(4, 2, 9), Bucket(7, 4, 1)):
            self.assertEqual(Fed("a", 1, Lengths(1, 3), bucket).bucket, bucket)
            self.assertEqual(FedSingle("a", 1, 3, bucket).bucket, bucket)
            self.assertEqual(FedSpread("a", 1, 1, 3, bucket).bucket, bucket)


class Numbers(Case):

    def test_longest_step_and_round(self):
        for numbers in SETS:
            for quantum in (1, 2, 3, 4, 6, 10, 35, 60, 1000):
                flow = Flow("a", quantum, Lengths(*numbers))
                self.same(flow.longest, max(numbers))
                self.same(flow.step, gcd(quantum, *numbers))
                self.same(flow.round_of, gcd(*numbers) // gcd(gcd(*numbers), quantum))

    def test_most_and_fewest_against_plain_sums(self):
        for numbers in SETS:
            longest, sums = max(numbers), sums_up_to(numbers, 460)
            for quantum in (1, 2, 3, 4, 7, 10, 40):
                flow = Flow("a", quantum, Lengths(*numbers))
                self.same(flow(0), 0)
                self.same(flow.fewest(0), 0)
                for turns in range(1, 11):
                    most = longest + max(number for number in sums if number <= turns * quantum - 1)
                    least = min(number for number in sums if number >= turns * quantum - longest + 1)
                    self.same(flow(turns), most)
                    self.same(flow.fewest(turns), least)

    def test_numbers_of_turns_of_many_figures(self):
        flow = Flow("a", 7, Lengths(4, 6))
        odd, even = 10 ** 59 + 1, 10 ** 60
        self.same(flow(odd), 7 * odd + 5)
        self.same(flow(even), 7 * even + 4)
        self.same(flow.fewest(odd), 7 * odd - 5)
        self.same(flow.fewest(even), 7 * even - 4)
        self.same(flow(turns=3), 26)
        self.same(flow.fewest(turns=3), 16)
        self.same(Single("b", 2, 3)(3 * 10 ** 60), 6 * 10 ** 60)
        self.same(Single("b", 2, 3).fewest(3 * 10 ** 60), 6 * 10 ** 60)
        self.same(Single("b", 2, 3).turn_of(6 * 10 ** 60 - 1), 3 * 10 ** 60)
        self.assertIs(Single("b", 2, 3).is_regular(10 ** 60), True)

    def test_whole_rounds(self):
        for numbers in SETS:
            for quantum in (1, 3, 4, 10):
                flow = Flow("a", quantum, Lengths(*numbers))
                for turns in range(1, 400, 7):
                    if flow.is_regular(turns):
                        self.assertEqual(flow(turns + flow.round_of), flow(turns) + flow.round_of * quantum)

    def test_turn_of(self):
        for quantum in (1, 2, 3, 7, 1000):
            flow = Flow("a", quantum, Lengths(2, 5))
            turn = 1
            for bits in range(1, 60):
                if bits > turn * quantum:
                    turn += 1
                self.same(flow.turn_of(bits), turn)
        self.same(flow.turn_of(bits=1001), 2)

    def test_is_regular(self):
        for numbers in SETS:
            conductor = Lengths(*numbers).conductor
            for quantum in (1, 2, 5, 100):
                flow = Flow("a", quantum, Lengths(*numbers))
                for turns in range(1, 60):
                    self.assertIs(flow.is_regular(turns), turns * quantum > conductor)
        flow = Flow("a", 1, Lengths(4, 6))
        self.assertEqual([flow.is_regular(turns=turns) for turns in (4, 5)], [False, True])

    def test_other_values(self):
        for flow in one_of_each():
            for value in other_values(lambda value: is_from(value, 0, 10 ** 100)):
                for work in (flow, flow.fewest, flow.turn_of, flow.is_regular):
                    self.refuses(BadNumber(value), work, value)
            self.refuses(BadNumber(0), flow.turn_of, 0)
            self.refuses(BadNumber(0), flow.is_regular, 0)

    def test_each_class_counts_by_its_lengths(self):
        for flow in (Single("a", 2, 3), FedSingle("a", 2, 3, WIDE)):
            self.assertEqual([flow(turns) for turns in (1, 2, 3, 4)], [3, 6, 6, 9])
        for flow in (Spread("a", 2, 3, 4), FedSpread("a", 2, 3, 4, WIDE)):
            self.assertEqual([flow(turns) for turns in (1, 2, 3, 4)], [4, 7, 8, 11])


class Others(Case):

    def test_another_quantum(self):
        for flow in one_of_each():
            found = flow.with_quantum(9)
            self.assertIs(type(found), type(flow))
            self.assertEqual((found.name, found.quantum, found.lengths), ("a", 9, Lengths(3)))
            self.assertEqual(getattr(found, "bucket", None), getattr(flow, "bucket", None))
            self.assertEqual(flow.quantum, 4)
            self.assertEqual(flow.with_quantum(quantum=4), flow)
            for value in other_values(lambda value: is_from(value, 1, 1000)):
                self.refuses(BadQuantum(value), flow.with_quantum, value)

    def test_another_name(self):
        for flow in one_of_each():
            found = flow.renamed("other")
            self.assertIs(type(found), type(flow))
            self.assertEqual((found.name, found.quantum, found.lengths), ("other", 4, Lengths(3)))
            self.assertEqual(getattr(found, "bucket", None), getattr(flow, "bucket", None))
            self.assertEqual(flow.name, "a")
            self.assertEqual(flow.renamed(name="a"), flow)
            for value in other_values(is_name):
                self.refuses(BadName(value), flow.renamed, value)

    def test_lengths_are_kept(self):
        self.assertEqual(Spread("a", 1, 2, 4).with_quantum(5).lengths, Lengths(2, 3, 4))
        self.assertEqual(Spread("a", 1, 2, 4).renamed("b").lengths, Lengths(2, 3, 4))
        self.assertEqual(FedSpread("a", 1, 2, 4, WIDE).with_quantum(5).lengths, Lengths(2, 3, 4))
        self.assertEqual(Flow("a", 1, Lengths(2, 4)).with_quantum(5).lengths, Lengths(2, 4))
        self.assertEqual(Fed("a", 1, Lengths(2, 4), WIDE).renamed("b").lengths, Lengths(2, 4))

    def test_equality_across_classes(self):
        plain, fed = one_of_each()[:3], one_of_each()[3:]
        for group, others in ((plain, fed), (fed, plain)):
            for one in group:
                self.assertTrue(all(one == other and not one != other for other in group))
                self.assertFalse(any(one == other for other in others))
        self.assertFalse(plain[0] == Single("b", 4, 3))
        self.assertFalse(plain[0] == Single("a", 5, 3))
        self.assertFalse(plain[0] == Single("a", 4, 4))
        self.assertFalse(fed[0] == FedSingle("a", 4, 3, Bucket(1000, 1, 7)))

    def test_no_other_value_is_equal(self):
        flow = Flow("never", 1, Lengths(1))
        for value in any_values():
            self.assertIs(flow == value, False)
            self.assertIs(value == flow, False)


class Texts(Case):

    def test_texts(self):
        self.assertEqual([str(flow) for flow in one_of_each()], ["a 4 : 3"] * 3 + ["a 4 : 3 : 1000 1 6"] * 3)
        self.assertEqual(str(Flow("a", 4, Lengths(6, 4))), "a 4 : 4 6")
        self.assertEqual(str(Fed("a", 4, Lengths(6, 4), Bucket(9, 1, 6))), "a 4 : 4 6 : 9 1 6")

    def test_read_what_was_written(self):
        for flow in one_of_each() + [Flow("abcdefgh", 1000, Lengths.between(1, 60)), Spread("z", 1, 59, 60),
                                     Fed("z", 1, Lengths(60), Bucket(1000000, 1000, 1000)),
                                     Fed("z", 1, Lengths(60), Bucket(1059, 1000, 1))]:
            found = Flow.read(str(flow))
            self.assertEqual(found, flow)
            self.assertEqual(str(found), str(flow))
            self.assertIs(type(found), Fed if isinstance(flow, Fed) else Flow)
        self.assertEqual(Flow.read(text="a 4 : 3"), one_of_each()[0])

    def test_the_first_word_that_cannot_stand(self):
        for text, word in (
                ("", 0), (" ", 0), ("a", 1), ("a ", 1), ("a 4", 2), ("a 4 ", 2), ("a 4 :", 3), ("a 4 : ", 3),
                ("A 4 : 3", 0), ("abcdefghi 4 : 3", 0), ("a1 4 : 3", 0), (" a 4 : 3", 0), ("4 4 : 3", 0),
                ("a 0 : 3", 1), ("a 1001 : 3", 1), ("a 04 : 3", 1), ("a x : 3", 1), ("a -4 : 3", 1), ("a : 3", 1),
                ("a 4 3", 2), ("a 4 :: 3", 2), ("a 4: 3", 1), ("a 4 ; 3", 2), ("a  4 : 3", 1), ("a 4  : 3", 2),
                ("a 4 : 0", 3), ("a 4 : 61", 3), ("a 4 : 03", 3), ("a 4 : :", 3), ("a 4 : x", 3), ("a 4 :  3", 3),
                ("a 4 : 3 3", 4), ("a 4 : 6 4", 4), ("a 4 : 4 6 5", 5), ("a 4 : 4 61", 4), ("a 4 : 4 ", 4),
                ("a 4 : 60 61", 4), ("a 4 : 4 x", 4), ("a 4 : 3\n", 3), ("a 4 : 3;", 3), ("a\n4 : 3", 0),
                ("a 4 : 3 :", 5), ("a 4 : 3 : ", 5), ("a 4 : 3 : 5", 6), ("a 4 : 3 : 5 1", 7), ("a 4 : 3 : 5 1 ", 7),
                ("a 4 : 3 : 2", 5), ("a 4 : 3 6 : 5 1 1", 6), ("a 4 : 3 : 0 1 1", 5), ("a 4 : 3 : 1000001 1 1", 5),
                ("a 4 : 3 : x", 5), ("a 4 : 3 : 03 1 1", 5), ("a 4 : 3 : : 1", 5), ("a 4 : 3 : 3 2 1", 6),
                ("a 4 : 3 : 6 5 1", 6), ("a 4 : 3 : 3 0 1", 6), ("a 4 : 3 : 5000 1001 1", 6), ("a 4 : 3 : 3 x 1", 6),
                ("a 4 : 3 : 3 1 0", 7), ("a 4 : 3 : 3 1 1001", 7), ("a 4 : 3 : 3 1 x", 7), ("a 4 : 3 : 3 1 1 1", 8),
                ("a 4 : 3 : 3 1 1 ", 8), ("a 4 : 3 : 3 1 1 :", 8), ("a 4 : 3 : 3 1 1\n", 7), ("a 4 : 3 : 3 :", 6),
                ("a " + "9" * 4000 + " : 3", 1), ("a 4 : 3 : " + "9" * 4000 + " 1 1", 5)):
            self.refuses(BadText(0, word), Flow.read, text)
            self.refuses(BadText(0, word), Fed.read, text)

    def test_a_rate_with_which_the_bucket_just_fits(self):
        self.assertEqual(Flow.read("a 4 : 3 : 6 4 1"), FedSingle("a", 4, 3, Bucket(6, 4, 1)))
        self.assertEqual(Flow.read("a 4 : 3 : 3 1 1"), FedSingle("a", 4, 3, Bucket(3, 1, 1)))

    def test_what_is_no_string(self):
        for value in other_values(lambda value: isinstance(value, str)):
            self.refuses(BadText(0, 0), Flow.read, value)
