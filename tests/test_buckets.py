"""creditturns.buckets: the bound, the packets that keep it, and the orders, each by a plain look."""

from itertools import product

from creditturns.buckets import Bucket
from creditturns.errors import BadArrivals, BadBucket, BadLengths, BadNumber, BadText, TooMany
from creditturns.lengths import Lengths
from creditturns.ratios import Ratio
from tests.helper import Case, any_values, is_from, other_values

NUMBERS = list(product((1, 2, 5), (1, 2, 3, 7), (1, 2, 3, 4, 9)))
BUCKETS = [Bucket(*numbers) for numbers in NUMBERS]


def is_bucket(value):
    return isinstance(value, Bucket)


def is_count(value):
    return is_from(value, 0, 10 ** 1000)


class Making(Case):

    def test_attributes_by_position_and_by_name(self):
        for burst, rate, every in NUMBERS + [(1000000, 1000, 1000), (1, 1, 1)]:
            for made in (Bucket(burst, rate, every), Bucket(every=every, rate=rate, burst=burst)):
                self.assertEqual((made.burst, made.rate, made.every), (burst, rate, every))

    def test_each_part(self):
        for value in other_values(lambda value: is_from(value, 1, 1000000)) + [1000001, 0]:
            self.refuses(BadBucket("burst"), Bucket, value, 1, 1)
        for value in other_values(lambda value: is_from(value, 1, 1000)):
            self.refuses(BadBucket("rate"), Bucket, 1, value, 1)
            self.refuses(BadBucket("every"), Bucket, 1, 1, value)

    def test_the_first_wrong_one(self):
        self.refuses(BadBucket("burst"), Bucket, 0, 0, 0)
        self.refuses(BadBucket("rate"), Bucket, 1, 0, 0)
        self.refuses(BadBucket("burst"), Bucket, True, None, "1")
        self.refuses(BadBucket("burst"), Bucket, burst=0, rate=1, every=0)


class Numbers(Case):

    def test_the_bound(self):
        for burst, rate, every in NUMBERS:
            bucket = Bucket(burst, rate, every)
            bound = burst
            for ticks in range(40):
                if ticks and ticks % every == 0:
                    bound += rate
                self.same(bucket(ticks), bound)
        self.assertEqual(Bucket(2, 3, 7)(ticks=7 * 10 ** 59), 2 + 3 * 10 ** 59)

    def test_the_earliest(self):
        for bucket in BUCKETS:
            for bits in range(60):
                ticks = 0
                while bucket(ticks) < bits:
                    ticks += 1
                self.same(bucket.earliest(bits), ticks)
        self.assertEqual(Bucket(1, 2, 5).earliest(bits=10 ** 60), 5 * (10 ** 60 // 2))

    def test_other_values(self):
        for value in other_values(is_count):
            self.refuses(BadNumber(value), Bucket(1, 1, 1), value)
            self.refuses(BadNumber(value), Bucket(1, 1, 1).earliest, value)

    def test_rate_of(self):
        for bucket in BUCKETS:
            self.assertIsInstance(bucket.rate_of, Ratio)
            self.assertEqual(bucket.rate_of, Ratio(bucket.rate, bucket.every))

    def test_fits(self):
        for bucket in BUCKETS + [Bucket(60, 1, 1), Bucket(59, 1, 1), Bucket(1059, 1000, 1), Bucket(1058, 1000, 1)]:
            for lengths in (Lengths(1), Lengths(2), Lengths(1, 3), Lengths(5), Lengths(2, 60)):
                self.assertIs(bucket.fits(lengths), bucket.burst >= max(lengths.numbers) + bucket.rate - 1)
        self.assertIs(Bucket(3, 2, 1).fits(lengths=Lengths(2)), True)
        for value in other_values(lambda value: isinstance(value, Lengths)):
            self.refuses(BadLengths("lengths"), Bucket(1, 1, 1).fits, value)


def keeps(bucket, comings):
    """A look at every stretch of moments."""
    if not comings:
        return True
    first, last = comings[0][0], comings[-1][0]
    for begin in range(first, last + 1):
        for end in range(begin, last + 1):
            bits = sum(length for moment, length in comings if begin <= moment <= end)
            if bits > bucket.burst + bucket.rate * ((end - begin) // bucket.every):
                return False
    return True


class Lets(Case):

    def test_a_look_at_every_stretch_of_moments(self):
        told = {True: 0, False: 0}
        moments = [(0, 0, 0), (0, 0, 1), (0, 1, 1), (0, 1, 2), (0, 2, 4), (0, 3, 4), (1, 4, 7), (2, 2, 6), (0, 0, 9),
                   (5, 8, 8), (0, 4, 8), (0, 3, 9)]
        for bucket in BUCKETS:
            for times in moments:
                for lengths in ((1, 1, 1), (1, 2, 1), (2, 1, 3), (5, 1, 1), (1, 1, 4), (3, 3, 3)):
                    comings = list(zip(times, lengths))
                    self.assertIs(bucket.lets(comings), keeps(bucket, comings), (str(bucket), comings))
                    told[bucket.lets(tuple(comings))] += 1
        self.assertGreater(min(told.values()), 100)

    def test_longer_ones(self):
        for bucket in (Bucket(2, 1, 6), Bucket(5, 2, 4), Bucket(4, 1, 3)):
            for least in (0, 1):
                for length in (1, 2):
                    kept, moment = [], 0
                    while len(kept) < 12:
                        if keeps(bucket, kept + [(moment, length)]):
                            kept.append((moment, length))
                            moment += least
                        else:
                            self.assertIs(bucket.lets(kept + [(moment, length)]), False)
                            moment += 1
                        self.assertIs(bucket.lets(kept), True)

    def test_no_packets_and_one(self):
        self.assertIs(Bucket(1, 1, 1).lets([]), True)
        self.assertIs(Bucket(1, 1, 1).lets(()), True)
        self.assertIs(Bucket(1, 1, 1).lets(comings=[(10 ** 12, 1)]), True)
        self.assertIs(Bucket(1, 9, 1).lets([(10 ** 12, 2)]), False)

    def test_far_moments(self):
        self.assertIs(Bucket(60, 1, 1000).lets([(0, 60), (10 ** 12, 60)]), True)
        self.assertIs(Bucket(60, 1, 1000).lets([(10 ** 12 - 999, 60), (10 ** 12, 1)]), False)
        self.assertIs(Bucket(60, 1, 1000).lets([(10 ** 12 - 1000, 60), (10 ** 12, 1)]), True)

    def test_what_is_no_list_or_tuple(self):
        for value in other_values(lambda value: isinstance(value, (list, tuple))):
            self.refuses(BadArrivals(None), Bucket(1, 1, 1).lets, value)

    def test_300_and_301_items(self):
        wide = Bucket(1000000, 1, 1)
        self.assertIs(wide.lets([(0, 60)] * 300), True)
        self.assertIs(Bucket(300, 1, 1).lets([(0, 1)] * 300), True)
        self.assertIs(Bucket(299, 1, 1).lets([(0, 1)] * 300), False)
        self.refuses(TooMany("packets", 300), wide.lets, [(0, 60)] * 301)
        self.refuses(TooMany("packets", 300), wide.lets, (None,) * 301)

    def test_items_that_are_no_packets(self):
        wide = Bucket(1000000, 1, 1)
        for value in any_values():
            if value not in ((1, 1), (0, 1)) or type(value) is not tuple:
                self.refuses(BadArrivals(0), wide.lets, [value])
                self.refuses(BadArrivals(1), wide.lets, ((0, 1), value, None))
            if not is_from(value, 0, 10 ** 12):
                self.refuses(BadArrivals(0), wide.lets, [(value, 1), (0, 1)])
                self.refuses(BadArrivals(1), wide.lets, [(0, 1), (value, 1)])
            if not is_from(value, 1, 60):
                self.refuses(BadArrivals(0), wide.lets, [(0, value), None])

    def test_moments_that_are_less(self):
        self.refuses(BadArrivals(1), Bucket(9, 1, 1).lets, [(3, 1), (2, 1)])
        self.refuses(BadArrivals(2), Bucket(9, 1, 1).lets, [(3, 1), (3, 1), (2, 1), (1, 1)])
        self.refuses(BadArrivals(1), Bucket(1, 1, 1).lets, [(5, 60), (4, 60)])

    def test_the_argument_is_left_as_it_was(self):
        comings = [(0, 1), (6, 1)]
        Bucket(2, 1, 6).lets(comings)
        self.assertEqual(comings, [(0, 1), (6, 1)])


class Orders(Case):

    def test_a_look_at_each_number_of_ticks(self):
        told = {True: 0, False: 0}
        near = [Bucket(*numbers) for numbers in product((4, 5), (2, 3), (3, 4, 6))]
        for one in BUCKETS + near:
            for other in BUCKETS[::2] + near:
                is_below = all(one(ticks) <= other(ticks) for ticks in range(600))
                is_above = all(other(ticks) <= one(ticks) for ticks in range(600))
                is_same = is_below and is_above
                self.assertIs(one <= other, is_below)
                self.assertIs(one >= other, is_above)
                self.assertIs(one < other, is_below and not is_same)
                self.assertIs(one > other, is_above and not is_same)
                self.assertIs(one == other, is_same)
                self.assertIs(one != other, not is_same)
                told[is_below] += 1
        self.assertGreater(min(told.values()), 500)

    def test_bounds_that_meet_late(self):
        self.assertIs(Bucket(1, 999, 998) <= Bucket(1000, 1000, 999), False)
        self.assertIs(Bucket(1, 999, 1000) <= Bucket(1000, 998, 999), False)
        self.assertIs(Bucket(1, 998, 999) <= Bucket(1000, 999, 1000), True)
        one, other = Bucket(4, 7, 1000), Bucket(9, 7, 999)
        self.assertEqual((one <= other, other <= one), (True, False))
        one, other = Bucket(10, 997, 991), Bucket(990, 1000, 993)
        for left, right in ((one, other), (other, one)):
            is_below = all(left(ticks) <= right(ticks) for ticks in range(991 * 993))
            self.assertIs(left <= right, is_below)

    def test_other_values(self):
        for value in other_values(is_bucket):
            for work in (lambda: Bucket(1, 1, 1) <= value, lambda: Bucket(1, 1, 1) < value,
                         lambda: Bucket(1, 1, 1) >= value, lambda: Bucket(1, 1, 1) > value):
                self.refuses(BadBucket("other"), work)
            self.assertIs(Bucket(1, 1, 1) == value, False)
            self.assertIs(value == Bucket(1, 1, 1), False)

    def test_equality(self):
        for at, one in enumerate(BUCKETS):
            for number, other in enumerate(BUCKETS):
                self.assertIs(one == other, at == number)
        self.assertTrue(Bucket(2, 1, 6) == Bucket(2, 1, 6))
        self.assertFalse(Bucket(2, 1, 6) == Bucket(2, 1, 7))
        self.assertFalse(Bucket(2, 1, 6) == Bucket(2, 2, 6))
        self.assertFalse(Bucket(2, 1, 6) == Bucket(3, 1, 6))


class Texts(Case):

    def test_read_what_was_written(self):
        for burst, rate, every in NUMBERS + [(1000000, 1000, 1000)]:
            text = " ".join([str(burst), str(rate), str(every)])
            self.assertEqual(str(Bucket(burst, rate, every)), text)
            self.assertEqual(Bucket.read(text), Bucket(burst, rate, every))
        self.assertEqual(Bucket.read(text="9 9 1"), Bucket(9, 9, 1))

    def test_the_first_word_that_cannot_stand(self):
        for text, word in (("", 0), (" ", 0), ("2", 1), ("2 1", 2), ("2 ", 1), ("2 1 ", 2), ("2 1 6 ", 3),
                           ("2 1 6 7", 3), (" 2 1 6", 0), ("2  1 6", 1), ("0 1 1", 0), ("1 0 1", 1), ("1 1 0", 2),
                           ("1000001 1 1", 0), ("1 1001 1", 1), ("1 1 1001", 2), ("01 1 1", 0), ("1 +1 1", 1),
                           ("1 1 1\n", 2), ("a 1 1", 0), ("1 a", 1), ("1 1 x 4", 2), ("2,1,6", 0), ("1 -1 1", 1),
                           ("9" * 5000, 0), ("1 1 " + "9" * 4900, 2), ("1.0 1 1", 0), ("2 1 6;", 2)):
            self.refuses(BadText(0, word), Bucket.read, text)

    def test_what_is_no_string(self):
        for value in other_values(lambda value: isinstance(value, str)):
            self.refuses(BadText(0, 0), Bucket.read, value)
