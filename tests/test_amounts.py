import unittest
from math import gcd

from upsanddowns.amounts import check_number, is_int, plain, product_of
from upsanddowns.errors import BadNumber

from tests.helpers import Errors


class AmountsTest(Errors, unittest.TestCase):
    def test_is_int(self):
        for one in (0, 1, -1, 10 ** 50):
            self.assertIs(is_int(one), True)
        for one in (True, False, None, "1", 1.0, [1], (1,), {}, b"1", object(), int):
            self.assertIs(is_int(one), False)

    def test_check_number(self):
        self.assertEqual(check_number("steps", 3, 3), 3)
        self.assertEqual(check_number("steps", 3, 0), 3)
        self.assertEqual(check_number("steps", -10 ** 30, None), -10 ** 30)
        for one, least in ((2, 3), (True, 0), (False, None), (None, None), ("1", 0), (1.0, 0), ([], None)):
            self.refused(BadNumber, {"name": "some"}, check_number, "some", one, least)

    def test_product_of(self):
        self.assertEqual(product_of([]), 1)
        self.assertEqual(product_of(()), 1)
        self.assertEqual(product_of([2, -3, 7]), -42)
        self.assertEqual(product_of((0, 5)), 0)
        self.assertEqual(product_of((10 ** 20, 10 ** 20)), 10 ** 40)

    def test_plain(self):
        self.assertEqual(plain([2, -4], 6), ((1, -2), 3))
        self.assertEqual(plain((2, 3), 6), ((2, 3), 6))
        self.assertEqual(plain([0, 0], 7), ((0, 0), 1))
        self.assertEqual(plain([], 7), ((), 1))
        self.assertEqual(plain([6, 12], 3), ((2, 4), 1))
        self.assertEqual(plain([0, 5], 10), ((0, 1), 2))

    def test_plain_is_lowest(self):
        for a in range(-6, 7):
            for b in range(-6, 7):
                for den in range(1, 13):
                    row, low = plain([a, b], den)
                    self.assertEqual(gcd(gcd(row[0], row[1]), low), 1)
                    self.assertEqual((row[0] * den, row[1] * den), (a * low, b * low))

    def test_plain_refused(self):
        for den in (0, -1, True, None, "1", 1.5):
            self.refused(BadNumber, {"name": "den"}, plain, [1], den)

    def test_nothing_is_kept(self):
        row = [2, 4]
        found = plain(row, 2)
        row[0] = 9
        self.assertEqual(found, ((1, 2), 1))


if __name__ == "__main__":
    unittest.main()
