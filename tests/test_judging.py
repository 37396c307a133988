"""Promises [1], [4] and [5]: marks judged, and what can be put behind them."""

import copy
import unittest
from itertools import combinations

from sumsapart.answers import Apart, Same
from sumsapart.errors import BadMarks, MarkError, NotApart
from sumsapart.judging import behind, told
from tests.helper import (
    GREATEST_PRIME, HUGE, UNWRITABLE, all_pairs, no_numbers, of_prime, plainly_apart,
    plainly_behind, plainly_same, powers, quickly_apart, steps_of,
)

# Put behind one another from nothing on: the sequence of Mian and Chowla, from 0.
ONE_BY_ONE = [
    0, 1, 3, 7, 12, 20, 30, 44, 65, 80, 96, 122, 147, 181, 203, 251, 289, 360, 400, 474, 564, 592,
    661, 774, 821, 915, 969, 1015, 1158, 1311, 1394, 1522, 1571, 1820, 1895, 2028, 2253, 2378,
    2509, 2779,
]
# Numbers that are this far apart, or multiples of it, are one and the same to Python's hash.
HASH = 2 ** 61 - 1


def turned(marks):
    return [-found for found in reversed(marks)]


def some_forties():
    """Give lists of forty marks that are apart."""
    forties = [
        powers(2, 40), powers(1000, 40), ONE_BY_ONE, of_prime(41, 40), of_prime(43, 40),
        of_prime(GREATEST_PRIME, 40), of_prime(GREATEST_PRIME, GREATEST_PRIME)[::25000],
        [HUGE + found for found in of_prime(41, 40)], [HUGE * found for found in ONE_BY_ONE],
        [HASH * found for found in ONE_BY_ONE], [UNWRITABLE + found for found in powers(2, 40)],
    ]
    forties = [marks[:40] for marks in forties]
    return forties + [turned(marks) for marks in forties]


def no_marks():
    """Give what is no list of marks, anew at each call."""
    rising = [[0, 1, 3], [], [5], [-HUGE, HUGE]]
    no_lists = [0, 7, "013", b"\x00\x01\x03", list]
    no_lists += [found for found in no_numbers() if not isinstance(found, list)]
    no_lists += [tuple(marks) for marks in rising] + [dict.fromkeys(marks) for marks in rising]
    no_lists += [set(marks) for marks in rising] + [iter(marks) for marks in rising]
    not_rising = [
        [1, 0], [3, 1, 0], [0, 1, 3, 2], [2, 0, 1], [-1, -2], [0, 3, 1, 7], [HUGE, -HUGE],
        [HUGE + 1, HUGE], powers(2, 39) + [0], [1, 0] + powers(2, 40)[2:],
    ]
    alike = [
        [0, 0], [5, 5], [-1, -1], [0, 1, 1], [0, 0, 1], [0, 1, 3, 3, 7], [HUGE, HUGE],
        powers(2, 39) + [2 ** 38],
    ]
    many = [powers(2, 41), list(range(41)), powers(2, 42), list(range(100)), [0] * 41]
    self_held = [0, 1]
    self_held.append(self_held)
    inside = [[wrong] for wrong in no_numbers()] + [self_held]
    inside += [[0, 1, wrong] for wrong in no_numbers()]
    inside += [[wrong, 10, 11] for wrong in no_numbers()]
    inside += [[0, wrong, 11] for wrong in no_numbers()]
    inside += [powers(2, 39) + [wrong] for wrong in no_numbers()]
    inside += [[0, 1, 2.0], [0.0, 1, 3], [False, 1, 3], [0, True, 3], [-1, False, True, 5]]
    return no_lists + not_rising + alike + many + inside


class JudgingCase(unittest.TestCase):
    def refused(self, error, asked, marks):
        """Ask, and see that just this error is raised."""
        with self.assertRaises(MarkError) as caught:
            asked(marks)
        self.assertIs(type(caught.exception), error)

    def check_told(self, marks, apart):
        """See that what is told is one of the two, that it is so, and that the other is not."""
        before = list(marks)
        answer = told(marks)
        self.assertEqual(marks, before)
        self.assertIs(answer.shows(marks), True)
        if apart:
            self.assertIs(type(answer), Apart)
        else:
            self.assertIs(type(answer), Same)
            self.assertIs(Apart().shows(marks), False)
            self.check_pair(answer.one, len(marks))
            self.check_pair(answer.other, len(marks))
            self.assertTrue(plainly_same(marks, answer.one, answer.other))

    def check_pair(self, pair, many):
        self.assertIs(type(pair), tuple)
        self.assertEqual([type(count) for count in pair], [int, int])
        self.assertTrue(0 <= pair[0] <= pair[1] < many)

    def check_behind(self, marks, expected):
        before = list(marks)
        found = behind(marks)
        self.assertEqual(marks, before)
        self.assertIs(type(found), int)
        self.assertEqual(found, expected)


class Told(JudgingCase):
    def test_few_marks(self):
        self.check_told([], True)
        for only in (0, 7, -7, HUGE, -HUGE, UNWRITABLE):
            self.check_told([only], True)
        for marks in ([0, 1], [-1, 0], [-HUGE, HUGE], [-UNWRITABLE, 5]):
            self.check_told(marks, True)

    def test_ordinary_marks(self):
        self.check_told([0, 1, 3, 7, 12, 20], True)
        self.check_told([0, 1, 3, 7, 12, 19], False)
        self.check_told([1, 2, 5, 6], False)
        self.check_told([0, 7, 13], True)

    def test_one_mark_twice(self):
        self.check_told([0, 1, 2], False)
        self.check_told([-5, 0, 5], False)
        self.check_told([0, 1, 3, 10, 16, 22], False)
        self.assertEqual({told([4, 6, 8]).one, told([4, 6, 8]).other}, {(0, 2), (1, 1)})

    def test_negative_marks(self):
        self.check_told([-20, -12, -7, -3, -1, 0], True)
        self.check_told([-3, -1, 0, 2], False)
        self.check_told([-2, -1, 1], True)
        self.check_told([-1, 0, 1], False)

    def test_very_large_marks(self):
        for far in (HUGE, -HUGE, UNWRITABLE, -UNWRITABLE):
            self.check_told([far, far + 1, far + 3, far + 7], True)
            self.check_told([far, far + 1, far + 3, far + 4], False)
        self.check_told([-HUGE - 1, 0, HUGE], True)
        self.check_told([-HUGE, 0, HUGE], False)
        # Alike to a hash, and to numbers that are rounded, but unlike.
        self.check_told([0, 1, HASH + 1], True)
        self.check_told([0, 2 ** 60, 2 ** 61 + 1], True)

    def test_forty_marks(self):
        for marks in some_forties():
            self.assertEqual(len(marks), 40)
            self.check_told(marks, True)
            self.check_told(marks[:39] + [marks[38] + marks[37] - marks[0]], False)
            self.check_told(marks[:39] + [2 * marks[38] - marks[36]], False)
        self.check_told(list(range(40)), False)
        self.check_told(list(range(-60, 60, 3)), False)

    def test_the_last_pairs_alone_have_one_sum(self):
        marks = powers(3, 39)
        self.check_told(marks + [2 * 3 ** 38 - 3 ** 37], False)
        answer = told(marks + [2 * 3 ** 38 - 3 ** 37])
        self.assertEqual({answer.one, answer.other}, {(37, 39), (38, 38)})

    def test_the_first_pairs_alone_have_one_sum(self):
        marks = [1, 2, 3] + powers(10, 40)[3:]
        self.check_told(marks, False)
        self.assertEqual({told(marks).one, told(marks).other}, {(0, 2), (1, 1)})

    def test_all_small_marks(self):
        for many in range(9):
            for marks in combinations(range(-3, 6), many):
                self.check_told(list(marks), plainly_apart(marks))

    def test_a_primes_marks_through_all_of_it(self):
        for prime in (3, 5, 7, 11, 13, 17, 19, 23, 29, 31, 37):
            self.check_told(of_prime(prime, prime), True)


class Behind(JudgingCase):
    def test_of_none(self):
        self.check_behind([], 0)

    def test_of_one(self):
        for only in (0, 7, -7, -1, HUGE, -HUGE, UNWRITABLE, -UNWRITABLE):
            self.check_behind([only], only + 1)

    def test_of_two(self):
        self.check_behind([0, 1], 3)
        self.check_behind([0, 2], 3)
        self.check_behind([-1, 0], 2)
        self.check_behind([-5, 5], 6)
        self.check_behind([-HUGE, HUGE], HUGE + 1)

    def test_one_after_another(self):
        for many, found in enumerate(ONE_BY_ONE):
            self.check_behind(ONE_BY_ONE[:many], found)

    def test_far_away(self):
        for far in (-3, -1000, HUGE, -HUGE, UNWRITABLE, -UNWRITABLE):
            for many in range(1, 13):
                marks = [far + found for found in ONE_BY_ONE[:many]]
                self.check_behind(marks, far + ONE_BY_ONE[many])

    def test_all_small_marks(self):
        for many in range(7):
            for marks in combinations(range(-4, 8), many):
                if plainly_apart(marks):
                    self.check_behind(list(marks), plainly_behind(list(marks)))
                else:
                    self.refused(NotApart, behind, list(marks))

    def test_of_forty(self):
        for marks in some_forties():
            found = behind(marks)
            self.assertGreater(found, marks[-1])
            self.assertTrue(quickly_apart(marks + [found]))
            self.check_behind(marks, plainly_behind(marks))

    def test_beside_the_last_mark(self):
        # The least number is put behind, even if it is only one more than the last.
        self.check_behind([0, 2, 7], 8)
        self.check_behind([0, 10, 12], 13)
        self.check_behind([0, 1, 5], 7)

    def test_forty_at_once(self):
        # As many numbers as could be tried, one by one, are too many.
        for marks in some_forties():
            self.assertLess(steps_of(behind, marks), 2000000)

    def test_not_apart(self):
        wrong = [
            [0, 1, 2], [1, 2, 5, 6], [-5, 0, 5], [-HUGE, 0, HUGE], list(range(40)),
            powers(3, 39) + [2 * 3 ** 38 - 3 ** 37], [0, 1, 3, 7, 12, 19],
        ]
        for marks in wrong:
            before = list(marks)
            self.refused(NotApart, behind, marks)
            self.assertEqual(marks, before)


class Refused(JudgingCase):
    def test_what_is_no_marks(self):
        for asked in (told, behind):
            for wrong in no_marks():
                self.refused(BadMarks, asked, wrong)

    def test_bad_marks_go_first(self):
        # Each of these would not be apart either.
        for wrong in ([0, 1, 2, 2], [2, 1, 0], [0, 0], [0, 1, 2, "3"], [0, 1, 2, True],
                      list(range(41)), (0, 1, 2), [0, 1, 2, None]):
            self.refused(BadMarks, behind, wrong)

    def test_forty_one_that_are_apart(self):
        for marks in some_forties():
            self.refused(BadMarks, told, marks + [2 * abs(marks[39]) + 10 ** 12])
            self.refused(BadMarks, behind, marks + [2 * abs(marks[39]) + 10 ** 12])

    def test_nothing_is_changed(self):
        for wrong in ([2, 1, 0], [[0], [1, 2]], {0: [1], 1: 2}, {0, 1}, [0, [1]], list(range(41)),
                      bytearray(b"013"), [{}, {1: 2}]):
            before = copy.deepcopy(wrong)
            for asked in (told, behind):
                self.refused(BadMarks, asked, wrong)
                self.assertEqual(wrong, before)


class HandedIn(JudgingCase):
    def test_names_of_arguments(self):
        self.assertIs(type(told(marks=[0, 1, 3])), Apart)
        self.assertEqual(behind(marks=[0, 1, 3]), 7)

    def test_nothing_is_kept(self):
        marks = [0, 1, 3]
        first = told(marks)
        self.check_behind(marks, 7)
        marks[2] = 2
        second = told(marks)
        self.assertIs(first.shows(marks), False)
        self.assertIs(second.shows(marks), True)
        self.refused(NotApart, behind, marks)
        self.assertEqual(vars(first), {})
        self.assertEqual(set(vars(second)), {"one", "other"})

    def test_what_is_told_is_new(self):
        self.assertIsNot(told([0, 1, 3]), told([0, 1, 3]))
        first, second = told([0, 1, 2]), told([0, 1, 2])
        self.assertIsNot(first, second)
        first.one = ()
        self.assertIs(second.shows([0, 1, 2]), True)
        self.assertIs(told([0, 1, 2]).shows([0, 1, 2]), True)

    def test_pairs_are_all_that_are_looked_at(self):
        for many in range(7):
            marks = list(range(many))
            shown = [
                (one, other) for one, other in combinations(all_pairs(many), 2)
                if Same(one, other).shows(marks)
            ]
            self.assertEqual(bool(shown), many > 2)
            if shown:
                answer = told(marks)
                self.assertIn(tuple(sorted([answer.one, answer.other])), shown)


if __name__ == "__main__":
    unittest.main()
