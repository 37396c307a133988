"""Whole numbers, primes, and what squares leave by a prime."""

from math import isqrt

GREATEST_PRIME = 1000000


def is_number(found):
    """Tell whether this is a whole number."""
    # True and False are no numbers here, but Python would take them for 1 and 0.
    return isinstance(found, int) and not isinstance(found, bool)


def is_count(found, many):
    """Tell whether this is a whole number from 0 to one less than so many."""
    return is_number(found) and 0 <= found < many


def is_prime(found):
    """Tell whether this is a prime from 3 to 1000000."""
    if not is_number(found) or found < 3 or found > GREATEST_PRIME or found % 2 == 0:
        return False
    # The greatest ones take 500 divisions: quick enough, and never mistaken.
    for part in range(3, isqrt(found) + 1, 2):
        if found % part == 0:
            return False
    return True


def power(base, exponent, prime):
    """Tell what a power leaves by the prime."""
    result = 1
    square = base % prime
    left = exponent
    while left > 0:
        if left % 2 == 1:
            result = result * square % prime
        square = square * square % prime
        left = left // 2
    return result


def inverse(number, prime):
    """Tell the number that makes 1 by the prime when it is multiplied with this one."""
    return power(number, prime - 2, prime)


def no_square(prime):
    """Tell the least number that no square leaves by the prime."""
    number = 2
    while power(number, prime // 2, prime) == 1:
        number += 1
    return number


def twos_in(number):
    """Tell how often a number above 0 can be halved, and what is left of it then."""
    many = 0
    left = number
    while left % 2 == 0:
        left = left // 2
        many += 1
    return many, left


def root(square, prime):
    """Tell a number whose square leaves as much by the prime as this, None if there is none."""
    if square % prime == 0:
        return 0
    if power(square, prime // 2, prime) != 1:
        return None
    many, odd = twos_in(prime - 1)
    result = power(square, odd // 2 + 1, prime)
    # The result's square is the square times this excess, which some power of two turns into 1:
    # each round halves that power, until the excess is 1 itself.
    excess = power(square, odd, prime)
    turn = power(no_square(prime), odd, prime)
    for level in reversed(range(many - 1)):
        if power(excess, 1 << level, prime) != 1:
            result = result * turn % prime
            excess = excess * turn * turn % prime
        turn = turn * turn % prime
    return result
