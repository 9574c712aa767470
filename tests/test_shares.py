import unittest
from fractions import Fraction
from math import gcd

from upsanddowns.errors import BadShare
from upsanddowns.shares import Share, total_of

from tests.helpers import Errors

VALUES = [(p, w) for p in range(-7, 8) for w in (-6, -4, -3, -1, 1, 2, 5, 6)]


def fraction(share):
    return Fraction(share.part, share.whole)


class ShareTest(Errors, unittest.TestCase):
    def same(self, share, want):
        """A Share in lowest terms that is this fraction."""
        self.assertIs(type(share), Share)
        self.assertEqual((share.part, share.whole), (want.numerator, want.denominator))
        self.assertIs(type(share.part), int)
        self.assertIs(type(share.whole), int)

    def test_lowest_terms(self):
        for part, whole in VALUES:
            share = Share(part, whole)
            self.same(share, Fraction(part, whole))
            self.assertGreaterEqual(share.whole, 1)
            self.assertEqual(gcd(share.part, share.whole), 1)
            self.same(Share.of(part, whole), Fraction(part, whole))
            self.assertEqual(str(share), f"{share.part}/{share.whole}")
        self.same(Share(5), Fraction(5))
        self.same(Share(0, -9), Fraction(0))
        self.assertEqual((str(Share(0, -9)), str(Share(-8, 12)), str(Share(7))), ("0/1", "-2/3", "7/1"))
        many = 10 ** 60
        self.same(Share(6 * many, -4 * many), Fraction(-3, 2))

    def test_reckoning(self):
        values = [Share(part, whole) for part, whole in VALUES[::5]]
        for one in values:
            self.same(-one, -fraction(one))
            for two in values:
                self.same(one + two, fraction(one) + fraction(two))
                self.same(one - two, fraction(one) - fraction(two))
                self.same(one * two, fraction(one) * fraction(two))
                self.assertIs(one.at_least(two), fraction(one) >= fraction(two))
                if not two.is_nought():
                    self.same(one.over(two), fraction(one) / fraction(two))
            for number in (-3, -1, 0, 1, 4, 10 ** 30):
                self.same(one + number, fraction(one) + number)
                self.same(number + one, fraction(one) + number)
                self.same(one - number, fraction(one) - number)
                self.same(number - one, number - fraction(one))
                self.same(one * number, fraction(one) * number)
                self.same(number * one, fraction(one) * number)
                self.assertIs(one.at_least(number), fraction(one) >= number)
                if number:
                    self.same(one.over(number), fraction(one) / number)
            self.assertIs(one.is_nought(), fraction(one) == 0)

    def test_equality(self):
        for part, whole in VALUES:
            for other, last in VALUES[::7]:
                self.assertIs(Share(part, whole) == Share(other, last), Fraction(part, whole) == Fraction(other, last))
            for number in range(-3, 4):
                self.assertIs(Share(part, whole) == number, Fraction(part, whole) == number)
                self.assertIs(number == Share(part, whole), Fraction(part, whole) == number)
        self.assertTrue(Share(4, 2) == 2)
        self.assertTrue(Share(1, 2) != Share(1, 3))
        for other in (True, None, "1/1", (1, 1), [1], 1.0, Fraction(1)):
            self.assertIs(Share(1).__eq__(other), False)
        self.assertFalse(Share(1) == True)  # noqa: E712
        self.assertFalse(Share(0) == False)  # noqa: E712
        self.assertFalse(Share(1) == "1/1")

    def test_unchanged(self):
        one, two = Share(1, 2), Share(1, 3)
        for _ in (one + two, one - two, one * two, -one, one.over(two), total_of([one, two])):
            self.assertEqual(((one.part, one.whole), (two.part, two.whole)), ((1, 2), (1, 3)))

    def test_other_kinds(self):
        for wrong in ("1", None, [1], True, 1.5):
            for call in (lambda x: Share(1) + x, lambda x: x + Share(1), lambda x: Share(1) - x,
                         lambda x: x - Share(1), lambda x: Share(1) * x, lambda x: x * Share(1)):
                with self.assertRaises(TypeError):
                    call(wrong)

    def test_refused(self):
        for wrong in (None, True, "1", 1.0, Share(1)):
            for call in (Share, Share.of):
                self.refused(BadShare, {"name": "part"}, call, wrong, 0)
                self.refused(BadShare, {"name": "whole"}, call, 1, wrong)
        for call in (Share, Share.of):
            self.refused(BadShare, {"name": "whole"}, call, 1, 0)
        for wrong in (None, True, "1", 1.0, 0, False, Share(0)):
            self.refused(BadShare, {"name": "other"}, Share(1).over, wrong)
        for wrong in (None, True, "1", 1.0, [1]):
            self.refused(BadShare, {"name": "other"}, Share(1).at_least, wrong)

    def test_totals(self):
        self.same(total_of([]), Fraction(0))
        self.same(total_of(()), Fraction(0))
        self.same(total_of([3, -5]), Fraction(-2))
        self.same(total_of((Share(1, 2), 1, Share(-1, 3))), Fraction(7, 6))
        values = [Share(part, whole) for part, whole in VALUES]
        self.same(total_of(values), sum(fraction(one) for one in values))
        for wrong in (None, 5, "12", {}, Share(1), [None], [Share(1), "1"], [True], [1, [2]]):
            self.refused(BadShare, {"name": "shares"}, total_of, wrong)


if __name__ == "__main__":
    unittest.main()
