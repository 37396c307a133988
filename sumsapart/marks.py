"""A prime's marks: one for each number below it, and the two of a sum and of a difference."""

from sumsapart.arithmetic import inverse, is_count, is_number, is_prime, root
from sumsapart.errors import BadNumber, BadPrime, NoMark


def check_prime(prime):
    """Refuse what is no prime from 3 to 1000000."""
    if not is_prime(prime):
        raise BadPrime("no prime from 3 to 1000000")


def check_number(number):
    """Refuse what is no whole number."""
    # No refusal shows the number: Python does not write out one of very many digits.
    if not is_number(number):
        raise BadNumber("no whole number")


def place(prime, number):
    """Tell the mark of a number, unchecked."""
    return 2 * prime * number + number * number % prime


def mark(prime, number):
    """Tell the prime's mark of a number."""
    check_prime(prime)
    if not is_count(number, prime):
        raise BadNumber("no whole number from 0 to one less than the prime")
    return place(prime, number)


def number_of(prime, found):
    """Tell the number that the prime's mark is of."""
    check_prime(prime)
    check_number(found)
    # What a square leaves is less than twice the prime, so the number can be read off.
    number = found // (2 * prime)
    if not is_count(number, prime) or place(prime, number) != found:
        raise NoMark("no mark of the prime")
    return number


def two_of(prime, total):
    """Tell the numbers of the two marks that have this sum, None if no two have."""
    check_prime(prime)
    check_number(total)
    # What two squares leave is together still less than twice the prime.
    both = total // (2 * prime)
    # Two numbers never make so much; it need not be squared, however great it is.
    if both < 0 or both > 2 * (prime - 1):
        return None
    # By the prime, the total is the sum of the squares, and the square of the gap between the two
    # numbers is twice that sum less the square of both together.
    gap = root(2 * total - both * both, prime)
    if gap is None:
        return None
    # The other root is the prime less this one; two numbers' sum and gap are both even or both odd.
    if gap % 2 != both % 2:
        gap = prime - gap
    low, high = (both - gap) // 2, (both + gap) // 2
    if low < 0 or high >= prime or place(prime, low) + place(prime, high) != total:
        return None
    return low, high


def apart_by(prime, difference):
    """Tell the numbers of the two marks that are so far apart, None if no two are."""
    check_prime(prime)
    if not is_number(difference) or difference < 1:
        raise BadNumber("no whole number above 0")
    # What two squares leave differs by less than the prime, upwards or downwards.
    gap = (difference + prime) // (2 * prime)
    # Two numbers are never so far apart; it need not be squared, however great it is.
    if gap < 1 or gap >= prime:
        return None
    # By the prime, the difference is that of the squares: the gap's square and twice the gap times
    # the lesser number.
    low = (difference - gap * gap) * inverse(2 * gap, prime) % prime
    high = low + gap
    if high >= prime or place(prime, high) - place(prime, low) != difference:
        return None
    return low, high
