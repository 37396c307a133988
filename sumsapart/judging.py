"""Marks judged: whether they are apart, and what can be put behind them."""

from sumsapart.answers import Apart, Same, all_sums, pair_sum
from sumsapart.arithmetic import is_number
from sumsapart.errors import BadMarks, NotApart

MOST_MARKS = 40


def rises(numbers):
    """Tell whether each number is more than the one ahead."""
    return all([first < second for first, second in zip(numbers, numbers[1:])])


def check_marks(marks):
    """Refuse what is no list of 0 to 40 whole numbers, each more than the one ahead."""
    if not isinstance(marks, list) or len(marks) > MOST_MARKS:
        raise BadMarks("no list of 0 to 40 marks")
    if not all([is_number(found) for found in marks]):
        raise BadMarks("a mark is no whole number")
    if not rises(marks):
        raise BadMarks("a mark is not more than the one ahead")


def all_pairs(many):
    """Tell each pair of so many marks, those of one mark twice too."""
    return [(first, second) for first in range(many) for second in range(first, many)]


def told(marks):
    """Tell an Apart of marks that are apart, else a Same of two of their pairs."""
    check_marks(marks)
    seen = {}
    for pair in all_pairs(len(marks)):
        total = pair_sum(marks, pair)
        if total in seen:
            return Same(seen[total], pair)
        seen[total] = pair
    return Apart()


def behind(marks):
    """Tell the least number above the last mark that can be put behind, so that they stay apart."""
    check_marks(marks)
    if not Apart().shows(marks):
        raise NotApart("two unlike pairs have one sum")
    if not marks:
        return 0
    # A number above the last mark is barred only by a mark with which it makes a sum of two marks:
    # twice the number is more than any sum of theirs. Sorted, not kept in a set, because numbers of
    # one hash would make a set slow.
    barred = sorted([total - found for total in all_sums(marks) for found in marks])
    least = marks[-1] + 1
    for number in barred:
        if number == least:
            least += 1
    return least
