import unittest
from fractions import Fraction
from math import gcd

from upsanddowns.errors import BadNumber, BadRank, BadTable, NotPositive
from upsanddowns.kept import Kept
from upsanddowns.normal import normal_row
from upsanddowns.numbers import Numbers
from upsanddowns.twosteps import down_up, factor, fading, mirror_row, times, up_down
from upsanddowns.webs import Web

from tests.helpers import Errors, all_kept, all_tuples, fraction, mult, plus, table_of, unit
from tests.test_numbers import ROWS


class TablesTest(Errors, unittest.TestCase):
    def test_against_walks(self):
        for kept in all_kept():
            for n in range(kept.top + 1):
                for k in range(n + 1):
                    self.assertEqual(down_up(kept, n, k), table_of(kept.web, n, "d" * k + "u" * k))
                for k in range(kept.top - n + 1):
                    self.assertEqual(up_down(kept, n, k), table_of(kept.web, n, "u" * k + "d" * k))
                    self.assertTrue(all_tuples(up_down(kept, n, k)))

    def test_above_the_top(self):
        for kept in all_kept():
            for top in range(kept.top + 1):
                less = kept.cut(top)
                for n in range(top + 1):
                    for k in range(kept.top - n + 2):
                        self.assertEqual(up_down(less, n, k), up_down(kept, n, k))

    def test_rows_of_down_ups(self):
        for kept in all_kept():
            for n in range(kept.top + 1):
                for k in range(4):
                    total = unit(kept.sizes[n], 0)
                    for c, entry in enumerate(normal_row(kept.numbers, "u" * k + "d" * k, n)):
                        total = plus(total, down_up(kept, n, k - c), entry)
                    self.assertEqual(up_down(kept, n, k), total)

    def test_steps(self):
        for kept in all_kept():
            for n in range(kept.top + 1):
                size = kept.sizes[n]
                self.assertEqual((up_down(kept, n, 0), down_up(kept, n, 0)), (unit(size), unit(size)))
                self.assertEqual(down_up(kept, n, n + 1), unit(size, 0))
                self.assertEqual(down_up(kept, n, 10 ** 20), unit(size, 0))

    def test_down_ups_one_by_one(self):
        for kept in all_kept():
            for n in range(kept.top + 1):
                size = kept.sizes[n]
                for j in range(n + 1):
                    less = plus(kept.below(n), unit(size, -kept.numbers.gain(n - j, j)))
                    one = mult(less, down_up(kept, n, j))
                    two = factor(down_up(kept, n, j + 1), kept.numbers.swaps(n - j, j), 0)
                    self.assertEqual(one, two)

    def test_fading(self):
        for kept in all_kept():
            for n in range(kept.top + 1):
                self.assertEqual(fading(kept, n), unit(kept.sizes[n], 0))
                self.assertEqual(len(fading(kept, n)), kept.sizes[n])

    def test_refused(self):
        kept = Kept(Web.shapes(2), Numbers.steady(1, 1))
        for rank in (-1, 3, True, None):
            for call in (up_down, down_up):
                self.refused(BadRank, {"rank": rank}, call, kept, rank, None)
            self.refused(BadRank, {"rank": rank}, fading, kept, rank)
        for steps in (-1, True, None, "1"):
            for call in (up_down, down_up):
                self.refused(BadNumber, {"name": "steps"}, call, kept, 1, steps)


class FactorsTest(Errors, unittest.TestCase):
    def test_factor(self):
        self.assertEqual(factor([[1, 2], (3, 4)], 2, -1), ((1, 4), (6, 7)))
        self.assertEqual(factor((), 5, 7), ())
        self.assertEqual(factor([[-3]], 0, 0), ((0,),))
        table = [[1, 2], [3, 4]]
        factor(table, 2, 2)
        self.assertEqual(table, [[1, 2], [3, 4]])

    def test_factor_refused(self):
        for table in (None, 5, "a", [[]], [[1, 2]], [[1], [2]], [[1, 2], [3]], [[True]], [["1"]], [5], [[1, 2], 5], {}):
            self.refused(BadTable, {"rank": 0, "side": "ups"}, factor, table, None, None)
        for one in (True, None, "1", 1.0):
            self.refused(BadNumber, {"name": "scale"}, factor, [[1]], one, None)
            self.refused(BadNumber, {"name": "shift"}, factor, [[1]], 1, one)

    def test_times(self):
        self.assertEqual(times([[1, 2]], ((3,), (-4,))), ((-5,),))
        self.assertEqual(times([[1], [2]], [[3, 4]]), ((3, 4), (6, 8)))
        self.assertEqual(times([], [[1, 2]]), ())
        self.assertEqual(times([], []), ())
        self.assertEqual(times([[], []], []), ((), ()))
        self.assertEqual(times([[1, 2]], [[], []]), ((),))

    def test_times_refused(self):
        for table in (None, 5, "a", [5], [[1], [1, 2]], [[True]], [[1], 5], [["1"]], [[1.5]], {}):
            self.refused(BadTable, {"rank": 0, "side": "ups"}, times, table, None)
            self.refused(BadTable, {"rank": 1, "side": "ups"}, times, [[1]], table)
        self.refused(BadTable, {"rank": 1, "side": "ups"}, times, [[1, 2]], [[1]])
        self.refused(BadTable, {"rank": 1, "side": "ups"}, times, [[1]], [])
        self.refused(BadTable, {"rank": 1, "side": "ups"}, times, [[]], [[1]])


class MirrorTest(Errors, unittest.TestCase):
    def test_polynomials(self):
        seen = 0
        for numbers in ROWS + [Numbers([(1, 2), (2, -5), (3, 1), (1, 4)], tail=(2, -1))]:
            for n in range(5):
                for k in range(n + 1):
                    zero = [m for m in range(n - k + 1, n + k) if numbers[m][0] == 0]
                    if zero:
                        self.refused(NotPositive, {"rank": zero[0]}, mirror_row, numbers, n, k)
                        continue
                    seen += 1
                    row, den = mirror_row(numbers, n, k)
                    self.assertEqual(len(row), k + 1)
                    self.assertTrue(all_tuples(row))
                    self.assertGreaterEqual(den, 1)
                    self.assertEqual(gcd(den, *row), 1)
                    for x in range(-k - 1, k + 2):
                        self.assertEqual(self.left(numbers, n, k, x), self.right(numbers, n, fraction((row, den)), x))
        self.assertGreater(seen, 40)

    def left(self, numbers, n, k, x):
        value = Fraction(1)
        for step in range(k):
            value *= Fraction(x - numbers.gain(n - step, step), numbers.swaps(n - step, step))
        return value

    def right(self, numbers, n, row, x):
        total, value = Fraction(0), Fraction(1)
        for j, entry in enumerate(row):
            if j > 0:
                value *= numbers.swaps(n, j) * x + numbers.gain(n, j)
            total += entry * value
        return total

    def test_walks(self):
        seen = 0
        for kept in all_kept():
            for n in range(kept.top + 1):
                for k in range(n + 1):
                    if any(kept.numbers[m][0] == 0 for m in range(n - k + 1, n + k)):
                        continue
                    row, den = mirror_row(kept.numbers, n, k)
                    total = unit(kept.sizes[n], 0)
                    for j, entry in enumerate(row):
                        total = plus(total, up_down(kept, n, j), entry)
                    self.assertEqual(total, factor(down_up(kept, n, k), den, 0))
                    seen += k > 1
        self.assertGreater(seen, 30)

    def test_known_rows(self):
        self.assertEqual(mirror_row(Numbers.steady(2, 3), 1, 1), ((-3, 1), 2))
        self.assertEqual(mirror_row(Numbers.steady(1, 1), 4, 0), ((1,), 1))
        self.assertEqual(mirror_row(Numbers.steady(0, 1), 1, 0), ((1,), 1))

    def test_refused(self):
        one = Numbers.steady(1, 1)
        for rank in (-1, True, None):
            self.refused(BadRank, {"rank": rank}, mirror_row, one, rank, None)
        for steps in (-1, True, None, 3):
            self.refused(BadNumber, {"name": "steps"}, mirror_row, one, 2, steps)
        numbers = Numbers([(0, 1), (1, 1), (0, 1), (1, 1), (0, 1)])
        self.refused(BadNumber, {"name": "steps"}, mirror_row, numbers, 2, 3)
        self.refused(NotPositive, {"rank": 2}, mirror_row, numbers, 2, 1)
        self.refused(NotPositive, {"rank": 2}, mirror_row, numbers, 3, 2)
        self.assertEqual(mirror_row(numbers, 3, 1), ((-1, 1), 1))
        self.assertEqual(mirror_row(numbers, 1, 1), ((-1, 1), 1))


if __name__ == "__main__":
    unittest.main()
