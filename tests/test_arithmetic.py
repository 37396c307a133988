"""What the other files go by: whole numbers, powers and roots by a prime."""

import unittest

from sumsapart.arithmetic import inverse, is_count, is_number, no_square, power, root, twos_in
from tests.helper import GREATEST_PRIME, HUGE, no_numbers, primes_to

SMALL_PRIMES = primes_to(200)


class Numbers(unittest.TestCase):
    def test_whole_numbers(self):
        for found in (0, 1, -1, HUGE, -HUGE):
            self.assertIs(is_number(found), True)
        for wrong in no_numbers():
            self.assertIs(is_number(wrong), False)

    def test_counts(self):
        for found in range(-3, 8):
            self.assertIs(is_count(found, 5), found in (0, 1, 2, 3, 4))
            self.assertIs(is_count(found, 0), False)
        for wrong in no_numbers():
            self.assertIs(is_count(wrong, 10), False)


class ByAPrime(unittest.TestCase):
    def test_powers(self):
        for prime in SMALL_PRIMES + [GREATEST_PRIME]:
            for base in (-5, 0, 1, 2, 3, prime - 1, prime, HUGE):
                for exponent in (0, 1, 2, 3, 7, 10, prime - 1, prime):
                    self.assertEqual(power(base, exponent, prime), pow(base, exponent, prime))

    def test_inverses(self):
        for prime in SMALL_PRIMES:
            for number in range(1, prime):
                self.assertEqual(number * inverse(number, prime) % prime, 1)

    def test_roots(self):
        for prime in SMALL_PRIMES:
            squares = {number * number % prime for number in range(prime)}
            for square in range(-prime, 2 * prime):
                found = root(square, prime)
                self.assertEqual(found is not None, square % prime in squares)
                if found is not None:
                    self.assertTrue(0 <= found < prime)
                    self.assertEqual(found * found % prime, square % prime)

    def test_what_no_square_leaves(self):
        for prime in SMALL_PRIMES:
            squares = {number * number % prime for number in range(prime)}
            self.assertEqual(no_square(prime), min(set(range(prime)) - squares))

    def test_halved(self):
        self.assertEqual([twos_in(number) for number in (1, 2, 3, 4, 6, 96)],
                         [(0, 1), (1, 1), (0, 3), (2, 1), (1, 3), (5, 3)])
        self.assertEqual(twos_in(786432), (18, 3))


if __name__ == "__main__":
    unittest.main()
