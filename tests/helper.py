"""What several tests need: plain searches that are slow but surely right, and wrong inputs."""

import sys
from decimal import Decimal
from fractions import Fraction
from itertools import combinations, combinations_with_replacement

HUGE = 10 ** 300
# Python does not write out a number of so many digits.
UNWRITABLE = 10 ** 5000
GREATEST_PRIME = 999983


class Bristling:
    """An object that refuses whatever it is asked."""

    def refuse(self, *rest):
        raise RuntimeError("touched")

    __eq__ = __ne__ = __lt__ = __le__ = __gt__ = __ge__ = __bool__ = __len__ = refuse
    __add__ = __radd__ = __sub__ = __rsub__ = __mul__ = __rmul__ = __mod__ = __rmod__ = refuse
    __floordiv__ = __rfloordiv__ = __iter__ = __getitem__ = __contains__ = __index__ = refuse
    __hash__ = __int__ = __repr__ = __str__ = refuse


class LikeSeven:
    """An object that can be taken for a 7, but is no whole number."""

    def __index__(self):
        return 7

    def __int__(self):
        return 7

    def __eq__(self, other):
        return other == 7

    def __hash__(self):
        return hash(7)


def no_numbers():
    """Give things that are no whole numbers, anew at each call."""
    return [
        None, True, False, "", "7", "abc", b"7", bytearray(b"7"),
        7.0, 0.0, 2.5, float("nan"), float("inf"), 7j, Fraction(7), Decimal(7),
        [], [7], [7, 1], (), (7,), (7, 1), {}, {7: 7}, set(), {7}, frozenset({7}),
        range(7), iter([7]), int, len, object(), Ellipsis, NotImplemented,
        Bristling(), LikeSeven(), lambda: 7,
    ]


def all_pairs(many):
    return list(combinations_with_replacement(range(many), 2))


def plainly_apart(marks):
    """Judge the marks by [1], word by word: each two unlike pairs are looked at."""
    return all(
        marks[a] + marks[b] != marks[c] + marks[d]
        for (a, b), (c, d) in combinations(all_pairs(len(marks)), 2)
    )


def quickly_apart(marks):
    """Judge the marks as well, but quickly enough for many of them."""
    sums = [marks[a] + marks[b] for a, b in all_pairs(len(marks))]
    return all(low != high for low, high in zip(sorted(sums), sorted(sums)[1:]))


def plainly_same(marks, one, other):
    pairs = all_pairs(len(marks))
    if one not in pairs or other not in pairs or one == other:
        return False
    return sum(marks[at] for at in one) == sum(marks[at] for at in other)


def plainly_behind(marks):
    """Try one number after another."""
    found = marks[-1] + 1 if marks else 0
    while not quickly_apart(marks + [found]):
        found += 1
    return found


def powers(base, many):
    return [base ** k for k in range(many)]


def mark_by_hand(prime, number):
    """Tell the mark by [2], word by word."""
    return sum([2 * prime] * number) + number ** 2 % prime


def of_prime(prime, many):
    return [2 * prime * k + k * k % prime for k in range(many)]


def primes_to(last):
    """Sieve the primes from 3 on."""
    kept = bytearray([1]) * (last + 1)
    for step in range(2, last + 1):
        if step * step > last:
            break
        if kept[step]:
            kept[step * step::step] = bytes(len(range(step * step, last + 1, step)))
    return [number for number in range(3, last + 1) if kept[number]]


def steps_of(asked, *arguments):
    """Count the steps of Python's machine that a call takes: no clock, so never by chance."""
    if hasattr(sys, "monitoring"):
        return steps_monitored(asked, arguments)
    return steps_traced(asked, arguments)


def steps_monitored(asked, arguments):
    """Count the steps as Python 3.12 and later tell them."""
    tool, event = 4, sys.monitoring.events.INSTRUCTION
    many = 0

    def count(code, at):
        nonlocal many
        many += 1

    sys.monitoring.use_tool_id(tool, "steps")
    sys.monitoring.register_callback(tool, event, count)
    sys.monitoring.set_events(tool, event)
    try:
        asked(*arguments)
    finally:
        sys.monitoring.set_events(tool, 0)
        sys.monitoring.register_callback(tool, event, None)
        sys.monitoring.free_tool_id(tool)
    return many


def steps_traced(asked, arguments):
    """Count the steps as Python 3.11 tells them."""
    many = 0

    def count(frame, event, told):
        nonlocal many
        frame.f_trace_opcodes = True
        if event == "opcode":
            many += 1
        return count

    before = sys.gettrace()
    sys.settrace(count)
    try:
        asked(*arguments)
    finally:
        sys.settrace(before)
    return many
