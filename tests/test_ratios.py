"""Point 34: exact fractions."""

import fractions
import itertools
import unittest

from ownwake.ratios import Ratio
from samples import ODD

PAIRS = [(0, 1), (1, 1), (-1, 1), (1, 2), (2, 4), (-2, 4), (2, -4), (-2, -4), (0, -7), (6, 3), (-6, 3), (7, 3), (10, 15),
         (1, 10 ** 40), (10 ** 40, 10 ** 39), (-10 ** 40 - 1, 3), (9, 10), (1, 3)]


class Ratios(unittest.TestCase):
    def check(self, ratio, expected):
        """Whether a ratio is this fraction, in its words, too."""
        self.assertEqual((ratio.top, ratio.bottom), (expected.numerator, expected.denominator))
        self.assertEqual((type(ratio), type(ratio.top), type(ratio.bottom)), (Ratio, int, int))
        self.assertEqual(str(ratio), str(expected))
        self.assertIs(bool(ratio), expected != 0)

    def test_lowest_terms(self):
        for top, bottom in PAIRS:
            self.check(Ratio(top, bottom), fractions.Fraction(top, bottom))
            self.check(Ratio(top=top, bottom=bottom), fractions.Fraction(top, bottom))
        self.assertEqual([(some.top, some.bottom) for some in (Ratio(2, 4), Ratio(2, -4), Ratio(-2, -4), Ratio(0, -7))],
                         [(1, 2), (-1, 2), (1, 2), (0, 1)])

    def test_one_integer(self):
        for top in (0, 5, -5, 10 ** 40):
            self.check(Ratio(top), fractions.Fraction(top))
            self.check(Ratio(top=top), fractions.Fraction(top))

    def test_sums_differences_and_products(self):
        for one, other in itertools.product(PAIRS, repeat=2):
            left, right = Ratio(*one), Ratio(*other)
            slow = fractions.Fraction(*one), fractions.Fraction(*other)
            self.check(left + right, slow[0] + slow[1])
            self.check(left - right, slow[0] - slow[1])
            self.check(left * right, slow[0] * slow[1])
            self.assertIs(left.is_less(right), slow[0] < slow[1])
            self.assertIs(left.is_less(other=right), slow[0] < slow[1])
            self.assertIs(left == right, slow[0] == slow[1])
            self.assertIs(left != right, slow[0] != slow[1])
            self.check(left, slow[0])
            self.check(right, slow[1])

    def test_equal_in_other_words(self):
        self.assertEqual(Ratio(2, 4), Ratio(-3, -6))
        self.assertEqual(Ratio(4, 2), Ratio(2))
        self.assertNotEqual(Ratio(1, 2), Ratio(-1, 2))
        self.assertNotEqual(Ratio(2, 3), Ratio(3, 2))

    def test_equal_to_nothing_else(self):
        for top in (0, 1, -1):
            for thing in [*ODD, 2, "1", (1, 1), fractions.Fraction(top), float(top)]:
                self.assertIs(Ratio(top) == thing, False)
                self.assertIs(thing == Ratio(top), False)
                self.assertIs(Ratio(top) != thing, True)

    def test_bool(self):
        self.assertEqual([bool(Ratio(top, 3)) for top in (-1, 0, 1)], [True, False, True])

    def test_text(self):
        self.assertEqual([str(Ratio(*pair)) for pair in [(3, 4), (3,), (-3, 4), (3, -4), (6, 2), (0, 5), (-6, 2)]],
                         ["3/4", "3", "-3/4", "-3/4", "3", "0", "-3"])


if __name__ == "__main__":
    unittest.main()
