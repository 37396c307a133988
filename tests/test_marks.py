"""Promises [1], [2] and [3]: a prime's marks, the two of a sum and the two of a difference."""

import copy
import unittest
from itertools import combinations

from sumsapart.errors import BadNumber, BadPrime, MarkError, NoMark
from sumsapart.marks import apart_by, mark, number_of, two_of
from tests.helper import (
    GREATEST_PRIME, HUGE, UNWRITABLE, all_pairs, mark_by_hand, no_numbers, of_prime, primes_to,
    quickly_apart, steps_of,
)

ALL_PRIMES = primes_to(1000000)
SMALL_PRIMES = [prime for prime in ALL_PRIMES if prime < 48]
# One less than each of these can be halved often: a root by them takes the most rounds.
OFTEN_HALVED = [prime for prime in ALL_PRIMES if prime > 10000 and prime % 8192 == 1]
GREAT_PRIMES = ALL_PRIMES[-30:] + OFTEN_HALVED
NO_PRIMES = [
    0, 1, 2, -1, -2, -3, -5, -7, -999983, 4, 6, 8, 10, 100, 999982, 1000000, 15, 21, 33, 35, 39,
    51, 57, 63, 77, 87, 91, 119, 143, 3 * 333331, 999981, 999999, 991 * 997, 983 * 991, 13 * 76913,
]
SQUARES = [prime * prime for prime in ALL_PRIMES[:167]] + [27, 81, 125, 343, 3 ** 12, 5 ** 8]
TAKEN_FOR_PRIMES = [
    341, 561, 645, 1105, 1387, 1729, 1905, 2047, 2465, 2701, 2821, 3277, 4033, 4369, 4681, 5461,
    6601, 8321, 8911, 10585, 15841, 25761, 29341, 41041, 46657, 52633, 62745, 63973, 65281, 74665,
    75361, 80581, 85489, 88357, 90751, 101101, 115921, 126217, 162401, 172081, 188461, 252601,
    278545, 294409, 314821, 334153, 340561, 399001, 410041, 449065, 488881, 512461, 530881, 552721,
    656601, 658801, 670033, 748657, 825265, 838201, 852841, 997633, 121, 703, 1891, 3281, 8401,
    323, 377, 1159, 1829, 3827, 5459, 5777, 10877, 271441, 904631, 97567,
]
BEYOND = [1000001, 1000003, 1000033, 1000037, 2 ** 31 - 1, 2 ** 61 - 1, 2 ** 127 - 1, 10 ** 9 + 7]
FAR = [HUGE, -HUGE, HUGE + 1, -HUGE - 1, 3 ** 900, UNWRITABLE, -UNWRITABLE, UNWRITABLE + 1]


def asked_of_a_prime():
    return ((mark, 0), (number_of, 0), (two_of, 0), (apart_by, 1))


class MarksCase(unittest.TestCase):
    def refused(self, error, asked, *arguments):
        """Ask, and see that just this error is raised."""
        with self.assertRaises(MarkError) as caught:
            asked(*arguments)
        self.assertIs(type(caught.exception), error)

    def check_pair(self, found, expected):
        """See that it is the pair, a tuple of two whole numbers, or None."""
        self.assertEqual(found, expected)
        if expected is not None:
            self.assertIs(type(found), tuple)
            self.assertEqual([type(number) for number in found], [int, int])

    def check_number(self, found, expected):
        self.assertEqual(found, expected)
        self.assertIs(type(found), int)


class Primes(MarksCase):
    def test_what_this_file_takes_for_primes(self):
        self.assertEqual(len(ALL_PRIMES), 78497)
        self.assertEqual(ALL_PRIMES[:5], [3, 5, 7, 11, 13])
        self.assertEqual(ALL_PRIMES[-1], GREATEST_PRIME)
        self.assertLessEqual({40961, 65537, 786433}, set(OFTEN_HALVED))
        for wrong in NO_PRIMES + SQUARES + TAKEN_FOR_PRIMES + BEYOND:
            self.assertFalse(set(ALL_PRIMES) & {wrong}, wrong)

    def test_every_number_up_to_the_greatest(self):
        primes = set(ALL_PRIMES)
        for number in range(-100, 1000100):
            try:
                self.assertEqual(mark(number, 0), 0)
                taken = True
            except BadPrime:
                taken = False
            self.assertIs(taken, number in primes, number)

    def test_what_is_no_prime(self):
        for wrong in NO_PRIMES + SQUARES + TAKEN_FOR_PRIMES + BEYOND + FAR:
            for asked, number in asked_of_a_prime():
                self.refused(BadPrime, asked, wrong, number)

    def test_what_is_no_whole_number(self):
        for wrong in no_numbers():
            for asked, number in asked_of_a_prime():
                self.refused(BadPrime, asked, wrong, number)

    def test_the_prime_is_refused_first(self):
        for wrong in [9, 2, 1000003, -7] + no_numbers():
            for asked, _ in asked_of_a_prime():
                for number in [-1, 0, 7, 10 ** 9] + no_numbers():
                    self.refused(BadPrime, asked, wrong, number)


class Marks(MarksCase):
    def test_by_hand(self):
        self.assertEqual([mark(3, k) for k in range(3)], [0, 7, 13])
        self.assertEqual([mark(5, k) for k in range(5)], [0, 11, 24, 34, 41])
        self.assertEqual([mark(7, k) for k in range(7)], [0, 15, 32, 44, 58, 74, 85])

    def test_small_primes(self):
        for prime in SMALL_PRIMES:
            for number in range(prime):
                self.check_number(mark(prime, number), mark_by_hand(prime, number))

    def test_first_and_last_number(self):
        for prime in SMALL_PRIMES + GREAT_PRIMES:
            self.check_number(mark(prime, 0), 0)
            self.check_number(mark(prime, 1), 2 * prime + 1)
            self.check_number(mark(prime, prime - 1), 2 * prime * (prime - 1) + 1)
            self.check_number(mark(prime, prime - 2), 2 * prime * (prime - 2) + 4 % prime)

    def test_greatest_prime_in_the_middle(self):
        self.check_number(mark(999983, 1000), 2 * 999983 * 1000 + 17)
        self.check_number(mark(999983, 999), 2 * 999983 * 999 + 998001)

    def test_small_primes_have_marks_that_are_apart(self):
        for prime in SMALL_PRIMES:
            marks = [mark(prime, number) for number in range(prime)]
            self.assertEqual(marks, sorted(marks))
            self.assertTrue(quickly_apart(marks))

    def test_numbers_out_of_place(self):
        for prime in (3, 5, 7, 41, 65537, GREATEST_PRIME):
            for wrong in [-1, -2, -prime, prime, prime + 1, 2 * prime, 10 ** 7] + FAR:
                self.refused(BadNumber, mark, prime, wrong)

    def test_no_whole_numbers(self):
        for prime in (3, 7, GREATEST_PRIME):
            for wrong in no_numbers():
                self.refused(BadNumber, mark, prime, wrong)


class NumbersOfMarks(MarksCase):
    def test_small_primes_through_and_beyond(self):
        for prime in SMALL_PRIMES:
            numbers = {found: number for number, found in enumerate(of_prime(prime, prime))}
            for found in range(-3 * prime, 2 * prime * prime + 3 * prime):
                if found in numbers:
                    self.check_number(number_of(prime, found), numbers[found])
                else:
                    self.refused(NoMark, number_of, prime, found)

    def test_again(self):
        for prime in GREAT_PRIMES:
            for number in [0, 1, 2, prime // 2, prime // 2 + 1, prime - 2, prime - 1]:
                self.check_number(number_of(prime, mark(prime, number)), number)
            for number in range(5, prime, prime // 7):
                self.check_number(number_of(prime, mark(prime, number)), number)

    def test_one_more_and_one_less(self):
        for prime in GREAT_PRIMES:
            for number in [0, 1, 2, 1000, prime // 2, prime - 2, prime - 1]:
                self.refused(NoMark, number_of, prime, mark(prime, number) + 1)
                self.refused(NoMark, number_of, prime, mark(prime, number) - 1)
                self.refused(NoMark, number_of, prime, mark(prime, number) + prime)

    def test_below_zero_and_beyond(self):
        for prime in (3, 7, 65537, GREATEST_PRIME):
            # What would be the marks of the numbers -1 and the prime, if they had any.
            for wrong in [-1, -2 * prime + 1, -2 * prime * prime, 2 * prime * prime] + FAR:
                self.refused(NoMark, number_of, prime, wrong)

    def test_no_whole_numbers(self):
        for prime in (3, 7, GREATEST_PRIME):
            for wrong in no_numbers():
                self.refused(BadNumber, number_of, prime, wrong)


class TwoOf(MarksCase):
    def test_by_hand(self):
        # The marks of 3 are 0, 7 and 13.
        self.check_pair(two_of(3, 0), (0, 0))
        self.check_pair(two_of(3, 7), (0, 1))
        self.check_pair(two_of(3, 13), (0, 2))
        self.check_pair(two_of(3, 14), (1, 1))
        self.check_pair(two_of(3, 20), (1, 2))
        self.check_pair(two_of(3, 26), (2, 2))
        for none in (-1, 1, 6, 8, 12, 15, 19, 21, 25, 27, 33):
            self.check_pair(two_of(3, none), None)

    def test_small_primes_through_and_beyond(self):
        for prime in SMALL_PRIMES:
            marks = of_prime(prime, prime)
            pairs = {marks[low] + marks[high]: (low, high) for low, high in all_pairs(prime)}
            self.assertEqual(len(pairs), prime * (prime + 1) // 2)
            for total in range(-5 * prime, 4 * prime * prime + 5 * prime):
                self.check_pair(two_of(prime, total), pairs.get(total))

    def test_middling_primes(self):
        for prime in (97, 193, 257):
            marks = of_prime(prime, prime)
            for low, high in all_pairs(prime):
                self.check_pair(two_of(prime, marks[low] + marks[high]), (low, high))

    def test_one_mark_twice(self):
        for prime in SMALL_PRIMES + GREAT_PRIMES:
            for number in [0, 1, 2, prime // 2, prime // 2 + 1, prime - 2, prime - 1]:
                self.check_pair(two_of(prime, 2 * mark(prime, number)), (number, number))

    def test_greatest_primes(self):
        for prime in GREAT_PRIMES:
            numbers = [0, 1, 2, 3, 999, prime // 3, prime // 2, prime // 2 + 1, prime - 2, prime - 1]
            for low, high in combinations(numbers, 2):
                total = mark(prime, low) + mark(prime, high)
                self.check_pair(two_of(prime, total), (low, high))

    def test_many_primes(self):
        for prime in ALL_PRIMES[1000::97]:
            for low, high in ((0, prime - 1), (prime // 5, prime // 2), (8, prime - 11)):
                total = mark(prime, low) + mark(prime, high)
                self.check_pair(two_of(prime, total), (low, high))

    def test_greatest_primes_all_that_few_pairs_make(self):
        # The numbers of each pair are together the same: so few pairs can be searched through.
        for prime in (999983, 786433):
            for both in (1, 2, 300, 2 * prime - 303, 2 * prime - 2):
                lows = range(max(0, both - prime + 1), both // 2 + 1)
                pairs = {
                    low * low % prime + (both - low) ** 2 % prime: (low, both - low)
                    for low in lows
                }
                near = [square + by for square in pairs for by in (-prime, -1, 0, 1, prime)]
                for squares in near + list(range(0, 2 * prime, prime // 500)):
                    if 0 <= squares < 2 * prime:
                        total = 2 * prime * both + squares
                        self.check_pair(two_of(prime, total), pairs.get(squares))

    def test_below_zero_and_beyond(self):
        for prime in (3, 7, 65537, GREATEST_PRIME):
            last = 2 * mark(prime, prime - 1)
            for total in [-1, -2 * prime, -last, last + 1, last + 2 * prime, 2 * last] + FAR:
                self.check_pair(two_of(prime, total), None)

    def test_no_whole_numbers(self):
        for prime in (3, 7, GREATEST_PRIME):
            for wrong in no_numbers():
                self.refused(BadNumber, two_of, prime, wrong)


class ApartBy(MarksCase):
    def test_by_hand(self):
        # The marks of 3 are 0, 7 and 13.
        self.check_pair(apart_by(3, 6), (1, 2))
        self.check_pair(apart_by(3, 7), (0, 1))
        self.check_pair(apart_by(3, 13), (0, 2))
        for none in (1, 2, 3, 5, 8, 12, 14, 20):
            self.check_pair(apart_by(3, none), None)

    def test_small_primes_through_and_beyond(self):
        for prime in SMALL_PRIMES:
            marks = of_prime(prime, prime)
            pairs = {
                marks[high] - marks[low]: (low, high) for low, high in all_pairs(prime) if low < high
            }
            self.assertEqual(len(pairs), prime * (prime - 1) // 2)
            for difference in range(1, 2 * prime * prime + 5 * prime):
                self.check_pair(apart_by(prime, difference), pairs.get(difference))

    def test_middling_primes(self):
        for prime in (97, 193, 257):
            marks = of_prime(prime, prime)
            for low, high in combinations(range(prime), 2):
                self.check_pair(apart_by(prime, marks[high] - marks[low]), (low, high))

    def test_greatest_primes(self):
        for prime in GREAT_PRIMES:
            numbers = [0, 1, 2, 3, 999, prime // 3, prime // 2, prime // 2 + 1, prime - 2, prime - 1]
            for low, high in combinations(numbers, 2):
                difference = mark(prime, high) - mark(prime, low)
                self.check_pair(apart_by(prime, difference), (low, high))

    def test_many_primes(self):
        for prime in ALL_PRIMES[1000::97]:
            for low, high in ((0, prime - 1), (prime // 5, prime // 2), (8, prime - 11)):
                difference = mark(prime, high) - mark(prime, low)
                self.check_pair(apart_by(prime, difference), (low, high))

    def test_greatest_primes_all_that_few_pairs_make(self):
        # The numbers of each pair differ by the same: so few pairs can be searched through.
        for prime in (999983, 786433):
            for gap in (prime - 1, prime - 2, prime - 300):
                pairs = {
                    (low + gap) ** 2 % prime - low * low % prime: (low, low + gap)
                    for low in range(prime - gap)
                }
                near = [square + by for square in pairs for by in (-prime, -1, 0, 1, prime)]
                for squares in near + list(range(1 - prime, prime, prime // 500)):
                    if abs(squares) < prime:
                        difference = 2 * prime * gap + squares
                        self.check_pair(apart_by(prime, difference), pairs.get(squares))

    def test_beyond(self):
        for prime in (3, 7, 65537, GREATEST_PRIME):
            last = mark(prime, prime - 1)
            for difference in [1, prime, last + 1, last + 2 * prime, 2 * last]:
                self.check_pair(apart_by(prime, difference), None)
            for difference in FAR:
                self.check_pair(apart_by(prime, abs(difference)), None)

    def test_not_above_zero(self):
        for prime in (3, 7, 65537, GREATEST_PRIME):
            marks = [mark(prime, number) for number in (0, 1, prime - 1)]
            for wrong in [0, -1] + [low - high for low, high in combinations(marks, 2)]:
                self.refused(BadNumber, apart_by, prime, wrong)
            for wrong in FAR:
                self.refused(BadNumber, apart_by, prime, -abs(wrong))

    def test_no_whole_numbers(self):
        for prime in (3, 7, GREATEST_PRIME):
            for wrong in no_numbers():
                self.refused(BadNumber, apart_by, prime, wrong)


class AtOnce(MarksCase):
    """A search through a million numbers would take millions of steps."""

    LIMIT = 50000

    def test_few_steps_for_the_greatest_primes(self):
        for prime in GREAT_PRIMES:
            low, high = prime // 3, prime - 2
            first, second = mark(prime, low), mark(prime, high)
            for asked, number in (
                (mark, high), (number_of, second), (two_of, first + second), (two_of, 2 * second),
                (two_of, first + second + 1), (two_of, first + second + 2), (two_of, HUGE),
                (apart_by, second - first), (apart_by, second - first + 1), (apart_by, HUGE),
            ):
                self.assertLess(steps_of(asked, prime, number), self.LIMIT, (asked, prime, number))

    def test_steps_are_counted(self):
        self.assertGreater(steps_of(lambda many: [k for k in range(many)], 100000), self.LIMIT)
        self.assertGreater(steps_of(lambda many: any(k < 0 for k in range(many)), 100000), self.LIMIT)


class HandedIn(MarksCase):
    def test_names_of_arguments(self):
        self.assertEqual(mark(prime=7, number=2), 32)
        self.assertEqual(number_of(prime=7, found=32), 2)
        self.assertEqual(two_of(prime=7, total=47), (1, 2))
        self.assertEqual(apart_by(prime=7, difference=17), (1, 2))

    def test_nothing_is_changed(self):
        for wrong in ([], [7], [7, [1, 2]], {}, {7: [7]}, {7}, bytearray(b"7")):
            before = copy.deepcopy(wrong)
            for asked, number in asked_of_a_prime():
                self.refused(BadPrime, asked, wrong, number)
                self.refused(BadNumber, asked, 7, wrong)
                self.assertEqual(wrong, before)

    def test_told_alike_each_time(self):
        for _ in range(3):
            self.assertEqual(mark(7, 6), 85)
            self.assertEqual(number_of(7, 85), 6)
            self.assertEqual(two_of(7, 1), None)
            self.assertEqual(two_of(7, 32 + 85), (2, 6))
            self.assertEqual(apart_by(7, 85 - 32), (2, 6))


if __name__ == "__main__":
    unittest.main()
