"""What is told of marks, and whether it is so."""

from sumsapart.arithmetic import is_count


def is_pair(found, many):
    """Tell whether this is a pair of so many marks, the lesser count first."""
    if not isinstance(found, tuple) or len(found) != 2:
        return False
    first, second = found
    return is_count(first, many) and is_count(second, many) and first <= second


def pair_sum(marks, pair):
    """Tell the sum of a pair of the marks."""
    first, second = pair
    return marks[first] + marks[second]


def all_sums(marks):
    """Tell the sum of each pair of the marks, those of one mark twice too."""
    return [first + second for at, first in enumerate(marks) for second in marks[at:]]


class Answer:
    """One of the things that are told of marks."""


class Apart(Answer):
    """The marks are apart: any two unlike pairs of them have unlike sums."""

    def shows(self, marks):
        """Tell whether the marks are apart."""
        sums = all_sums(marks)
        return len(set(sums)) == len(sums)


class Same(Answer):
    """Two unlike pairs of the marks have one sum."""

    def __init__(self, one, other):
        self.one = one
        self.other = other

    def shows(self, marks):
        """Tell whether the fields are two unlike pairs of the marks that have one sum."""
        many = len(marks)
        if not is_pair(self.one, many) or not is_pair(self.other, many):
            return False
        return self.one != self.other and pair_sum(marks, self.one) == pair_sum(marks, self.other)
