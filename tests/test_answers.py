"""Promises [1] and [4] as far as they speak of the answers: Apart and Same."""

import unittest
from itertools import combinations, product

from sumsapart import answers
from sumsapart.answers import Answer, Apart, Same
from tests.helper import HUGE, all_pairs, of_prime, plainly_apart, plainly_same, powers


class AnswerCase(unittest.TestCase):
    def check(self, answer, marks, expected):
        """Ask, and see that True or False is told and the marks are as they were."""
        before = list(marks)
        found = answer.shows(marks)
        self.assertIs(found, expected, (vars(answer), marks))
        self.assertEqual(marks, before)


class Classes(unittest.TestCase):
    def test_both_stand_straight_under_answer(self):
        self.assertEqual(Answer.__bases__, (object,))
        self.assertEqual(Apart.__bases__, (Answer,))
        self.assertEqual(Same.__bases__, (Answer,))

    def test_shows_is_defined_in_each_class_itself(self):
        self.assertIn("shows", vars(Apart))
        self.assertIn("shows", vars(Same))

    def test_each_is_defined_in_its_file(self):
        for name in ("Answer", "Apart", "Same"):
            self.assertEqual(getattr(answers, name).__module__, "sumsapart.answers")

    def test_fields_are_set_when_it_is_made(self):
        self.assertEqual(vars(Apart()), {})
        self.assertEqual(vars(Same((0, 3), (1, 2))), {"one": (0, 3), "other": (1, 2)})

    def test_names_of_arguments(self):
        answer = Same(other=(1, 1), one=(0, 2))
        self.assertEqual((answer.one, answer.other), ((0, 2), (1, 1)))
        self.assertIs(answer.shows(marks=[0, 1, 2]), True)
        self.assertIs(Apart().shows(marks=[0, 1, 2]), False)


class ApartShows(AnswerCase):
    def test_few_marks(self):
        self.check(Apart(), [], True)
        for only in (0, 7, -7, HUGE, -HUGE):
            self.check(Apart(), [only], True)
        self.check(Apart(), [3, 4], True)
        self.check(Apart(), [-HUGE, HUGE], True)

    def test_ordinary_marks(self):
        self.check(Apart(), [0, 1, 3, 7, 12, 20], True)
        self.check(Apart(), [0, 1, 3, 7, 12, 19], False)
        self.check(Apart(), [1, 2, 5, 6], False)

    def test_one_mark_twice_counts_as_a_pair(self):
        self.check(Apart(), [0, 1, 2], False)
        self.check(Apart(), [-5, 0, 5], False)
        self.check(Apart(), [0, 1, 3], True)

    def test_negative_marks(self):
        self.check(Apart(), [-20, -12, -7, -3, -1, 0], True)
        self.check(Apart(), [-3, -1, 0, 2], False)
        self.check(Apart(), [-2, -1, 1], True)

    def test_very_large_marks(self):
        self.check(Apart(), [HUGE, HUGE + 1, HUGE + 3, HUGE + 7], True)
        self.check(Apart(), [HUGE, HUGE + 1, HUGE + 3, HUGE + 4], False)
        self.check(Apart(), [-HUGE - 1, 0, HUGE], True)
        self.check(Apart(), [-HUGE, 0, HUGE], False)

    def test_forty_marks(self):
        for marks in (powers(2, 40), powers(1000, 40), of_prime(41, 40), of_prime(999983, 40)):
            self.check(Apart(), marks, True)
            self.check(Apart(), [-mark for mark in reversed(marks)], True)
            spoiled = marks[:39] + [marks[38] + marks[37] - marks[0]]
            self.assertGreater(spoiled[39], spoiled[38])
            self.check(Apart(), spoiled, False)
        self.check(Apart(), list(range(40)), False)

    def test_somewhat_more_than_forty_marks(self):
        self.check(Apart(), powers(2, 45), True)
        self.check(Apart(), list(range(45)), False)

    def test_sums_that_are_alike_to_a_hash(self):
        around = 2 ** 61 - 1
        self.check(Apart(), [around * mark for mark in powers(2, 40)], True)
        self.check(Apart(), [0, 1, around + 1], True)

    def test_all_small_marks(self):
        for many in range(9):
            for marks in combinations(range(-3, 6), many):
                self.check(Apart(), list(marks), plainly_apart(marks))


class SameShows(AnswerCase):
    def test_ordinary_pairs(self):
        self.check(Same((0, 3), (1, 2)), [1, 2, 5, 6], True)
        self.check(Same((1, 2), (0, 3)), [1, 2, 5, 6], True)
        self.check(Same((0, 2), (1, 3)), [1, 2, 5, 6], False)
        self.check(Same((0, 3), (1, 2)), [1, 2, 5, 7], False)

    def test_one_mark_twice(self):
        self.check(Same((0, 2), (1, 1)), [0, 1, 2], True)
        self.check(Same((1, 1), (0, 2)), [0, 1, 2], True)
        self.check(Same((0, 2), (1, 1)), [0, 1, 3], False)
        self.check(Same((0, 0), (1, 1)), [0, 1, 2], False)

    def test_the_same_pair_twice(self):
        self.check(Same((0, 1), (0, 1)), [0, 1, 2], False)
        self.check(Same((1, 1), (1, 1)), [0, 1, 2], False)
        self.check(Same((0, 2), (2, 0)), [0, 1, 2], False)

    def test_a_pair_turned_about(self):
        self.check(Same((2, 0), (1, 1)), [0, 1, 2], False)
        self.check(Same((1, 1), (2, 0)), [0, 1, 2], False)
        self.check(Same((3, 0), (2, 1)), [1, 2, 5, 6], False)
        self.check(Same((3, 0), (1, 2)), [1, 2, 5, 6], False)
        self.check(Same((0, 3), (2, 1)), [1, 2, 5, 6], False)

    def test_counts_at_and_beyond_the_ends(self):
        self.check(Same((0, 4), (1, 3)), [0, 1, 2, 3, 4], True)
        self.check(Same((0, 4), (2, 2)), [0, 1, 2, 3, 4], True)
        self.check(Same((0, 5), (1, 4)), [0, 1, 2, 3, 4], False)
        self.check(Same((1, 4), (0, 5)), [0, 1, 2, 3, 4], False)
        self.check(Same((5, 5), (1, 4)), [0, 1, 2, 3, 4], False)
        self.check(Same((0, HUGE), (1, 1)), [0, 1, 2], False)

    def test_counts_below_zero(self):
        # Counted from the end these would be pairs of one sum.
        self.check(Same((-3, -1), (1, 1)), [0, 1, 2], False)
        self.check(Same((-3, 2), (1, 1)), [0, 1, 2], False)
        self.check(Same((1, 1), (-3, -1)), [0, 1, 2], False)
        self.check(Same((-1, -1), (2, 2)), [0, 1, 2], False)
        self.check(Same((-HUGE, 2), (1, 1)), [0, 1, 2], False)

    def test_tuples_of_other_lengths(self):
        wrong = ((), (0,), (1,), (0, 2, 0), (0, 1, 1), (1, 1, 1), tuple(range(100)))
        for found in wrong:
            self.check(Same(found, (1, 1)), [0, 1, 2], False)
            self.check(Same((0, 2), found), [0, 1, 2], False)
            self.check(Same(found, found), [0, 1, 2], False)
        for one, other in product(wrong, wrong):
            self.check(Same(one, other), [0, 1, 2], False)

    def test_what_is_no_tuple(self):
        self.check(Same([0, 2], (1, 1)), [0, 1, 2], False)
        self.check(Same((0, 2), [1, 1]), [0, 1, 2], False)
        self.check(Same([0, 2], [1, 1]), [0, 1, 2], False)

    def test_true_and_false_are_no_counts(self):
        self.check(Same((0, 2), (True, True)), [0, 1, 2], False)
        self.check(Same((0, 2), (1, True)), [0, 1, 2], False)
        self.check(Same((False, 2), (1, 1)), [0, 1, 2], False)

    def test_few_marks(self):
        for one, other in product(((), (0,), (0, 0), (0, 1), (1, 1), (-1, 0)), repeat=2):
            self.check(Same(one, other), [], False)
            self.check(Same(one, other), [5], False)
            self.check(Same(one, other), [5, 6], False)

    def test_negative_and_very_large_marks(self):
        self.check(Same((0, 2), (1, 1)), [-5, 0, 5], True)
        self.check(Same((0, 2), (1, 1)), [-5, -3, -1], True)
        self.check(Same((0, 3), (1, 2)), [HUGE, HUGE + 1, HUGE + 3, HUGE + 4], True)
        self.check(Same((0, 3), (1, 2)), [HUGE, HUGE + 1, HUGE + 3, HUGE + 5], False)
        self.check(Same((0, 2), (1, 1)), [-HUGE, 0, HUGE], True)
        self.check(Same((0, 2), (1, 1)), [-HUGE, 0, HUGE + 1], False)

    def test_forty_marks(self):
        marks = list(range(-40, 80, 3))
        self.assertEqual(len(marks), 40)
        self.check(Same((0, 39), (19, 20)), marks, True)
        self.check(Same((38, 38), (37, 39)), marks, True)
        self.check(Same((38, 38), (37, 40)), marks, False)
        self.check(Same((39, 40), (39, 39)), marks, False)
        self.check(Same((37, 39), (38, 38)), powers(2, 40), False)

    def test_somewhat_more_than_forty_marks(self):
        self.check(Same((0, 44), (22, 22)), list(range(45)), True)
        self.check(Same((0, 45), (22, 23)), list(range(45)), False)

    def test_all_pairs_of_small_counts(self):
        counts = range(-2, 5)
        found = list(product(counts, counts))
        for marks in ([0, 1, 2], [-2, -1, 0, 1], [0, 1, 3, 4], [0, 1, 3, 7]):
            for one, other in product(found, found):
                self.check(Same(one, other), marks, plainly_same(marks, one, other))


class AskedAgain(AnswerCase):
    def test_fields_set_anew(self):
        answer = Same((0, 1), (0, 1))
        self.check(answer, [0, 1, 2], False)
        answer.one = (0, 2)
        self.check(answer, [0, 1, 2], False)
        answer.other = (1, 1)
        self.check(answer, [0, 1, 2], True)
        answer.one = (2, 0)
        self.check(answer, [0, 1, 2], False)
        answer.one, answer.other = (1, 1), (0, 2)
        self.check(answer, [0, 1, 2], True)
        answer.other = ()
        self.check(answer, [0, 1, 2], False)

    def test_fields_stay_as_they_were(self):
        answer = Same((0, 2), (1, 1))
        answer.shows([0, 1, 2])
        answer.shows([])
        self.assertEqual(vars(answer), {"one": (0, 2), "other": (1, 1)})

    def test_marks_are_not_kept(self):
        apart, same = Apart(), Same((0, 2), (1, 1))
        marks = [0, 1]
        self.check(apart, marks, True)
        self.check(same, marks, False)
        marks.append(2)
        self.check(apart, marks, False)
        self.check(same, marks, True)
        marks[2] = 3
        self.check(apart, marks, True)
        self.check(same, marks, False)
        self.assertEqual(vars(apart), {})
        self.assertEqual(vars(same), {"one": (0, 2), "other": (1, 1)})

    def test_two_answers_do_not_share_fields(self):
        first, second = Same((0, 2), (1, 1)), Same((0, 3), (1, 2))
        second.one = (0, 0)
        self.assertEqual((first.one, first.other), ((0, 2), (1, 1)))


class NeverBoth(AnswerCase):
    def test_apart_or_some_same_but_never_both(self):
        for many in range(6):
            pairs = all_pairs(many)
            for marks in combinations(range(8), many):
                marks = list(marks)
                shown = any(Same(one, other).shows(marks) for one, other in product(pairs, pairs))
                self.check(Apart(), marks, not shown)


if __name__ == "__main__":
    unittest.main()
