import random
import unittest
from fractions import Fraction

from upsanddowns.errors import BadRank, BadReading, BadSize, NoneSuch
from upsanddowns.joins import beside
from upsanddowns.kept import Kept
from upsanddowns.levels import parts, pure_basis, pures
from upsanddowns.living import alive, forbidden, late_sum, norm, pures_by_sizes
from upsanddowns.makers import chain
from upsanddowns.normal import told_count
from upsanddowns.numbers import Numbers, first_not_above
from upsanddowns.sizes import size_steps
from upsanddowns.webs import Web
from upsanddowns.weights import is_balanced, weights

from tests.helpers import Errors, all_kept, all_tuples, closed_words, fraction, lift
from tests.test_numbers import ROWS

SOME = ROWS + [
    Numbers([(1, 2), (1, -2), (2, 1)]), Numbers([(1, 1), (3, -3), (1, 1), (1, -1)]), Numbers([], tail=(1, -1)),
]


def balanced_kept():
    return [kept for kept in all_kept() if is_balanced(kept.web)]


def slow_pures(numbers, sizes):
    row = []
    for n, size in enumerate(sizes):
        living = [m for i, m in enumerate(row) if all(numbers.gain(i, k) != 0 for k in range(1, n - i + 1))]
        row.append(size - sum(living))
    return tuple(row)


def slow_forbidden(numbers, sizes):
    for i, m in enumerate(slow_pures(numbers, sizes)):
        firsts = [numbers.gain(i, k) for k in range(1, len(sizes) - i) if numbers.gain(i, k) <= 0]
        if m < 0 or (m != 0 and firsts and firsts[0] < 0):
            return i
    return None


def some_sizes():
    dice = random.Random(4)
    found = [[0], [3], [0, 0, 0], [1, 2, 1], [1, 1, 2, 2], [1, 3, 3, 1, 0], [0, 2, 0, 2], [2, 2, 2, 2]]
    return found + [[dice.randint(0, 3) for _ in range(dice.randint(1, 5))] for _ in range(40)]


class AliveTest(Errors, unittest.TestCase):
    def test_alive(self):
        for numbers in SOME:
            for i in range(5):
                for n in range(6):
                    told = alive(numbers, i, n)
                    self.assertIs(told, n >= i and all(numbers.gain(i, k) != 0 for k in range(1, n - i + 1)))

    def test_refused(self):
        one = Numbers.steady(1, 1)
        for wrong in (-1, True, None, "0"):
            self.refused(BadRank, {"rank": wrong}, alive, one, wrong, -7)
            self.refused(BadRank, {"rank": wrong}, alive, one, 3, wrong)


class PuresTest(Errors, unittest.TestCase):
    def test_balanced_webs(self):
        for kept in balanced_kept():
            told = pures_by_sizes(kept.numbers, kept.sizes)
            self.assertEqual(told, tuple(pures(kept.web, n) for n in range(kept.top + 1)))
            self.assertTrue(all_tuples(told))
            self.assertIsNone(forbidden(kept.numbers, kept.sizes))
            for n in range(kept.top + 1):
                self.assertEqual(kept.sizes[n], sum(m for i, m in enumerate(told) if alive(kept.numbers, i, n)))

    def test_gains_of_balanced_webs(self):
        for kept in balanced_kept():
            numbers, top = kept.numbers, kept.top
            told = [i for i in range(top + 1) if pures(kept.web, i) > 0]
            for i in told:
                k = first_not_above(numbers, i, top)
                if k is not None:
                    self.assertEqual(numbers.gain(i, k), 0)
                for j in told:
                    if i < j and alive(numbers, i, j):
                        self.assertTrue(all(alive(numbers, i, n) for n in range(top + 1) if alive(numbers, j, n)))

    def test_any_sizes(self):
        for numbers in SOME:
            for sizes in some_sizes():
                self.assertEqual(pures_by_sizes(numbers, sizes), slow_pures(numbers, sizes))
        self.assertEqual(pures_by_sizes(Numbers.steady(1, 1), (3, 1)), (3, -2))

    def test_refused(self):
        one = Numbers.steady(1, 1)
        for call in (pures_by_sizes, forbidden, late_sum):
            for sizes in (None, 5, "12", (), [], {}):
                self.refused(BadSize, {"rank": -1}, call, one, sizes)
            for sizes, rank in (([1, -1, None], 1), ([True], 0), ([1, 2, "3"], 2), ([None], 0)):
                self.refused(BadSize, {"rank": rank}, call, one, sizes)


class LateSumTest(Errors, unittest.TestCase):
    def test_sums(self):
        made = missed = 0
        for numbers in SOME:
            for sizes in some_sizes():
                fault = slow_forbidden(numbers, sizes)
                self.assertEqual(forbidden(numbers, sizes), fault)
                if fault is not None:
                    missed += 1
                    self.refused(NoneSuch, {"rank": fault}, late_sum, numbers, sizes)
                    continue
                made += 1
                web = late_sum(numbers, sizes)
                self.assertEqual(web.sizes, tuple(sizes))
                self.assertTrue(is_balanced(web))
                self.assertEqual(Kept(web, numbers).web, web)
                top = len(sizes) - 1
                chains = [
                    chain(numbers, i, top) for i, m in enumerate(slow_pures(numbers, sizes)) for _ in range(m)
                ]
                if chains:
                    self.assertEqual(web, beside(*chains))
        self.assertGreater(made, 100)
        self.assertGreater(missed, 100)

    def test_known(self):
        self.assertEqual(late_sum(Numbers.steady(1, 1), [0, 0]).sizes, (0, 0))
        self.assertEqual(late_sum(Numbers.steady(1, 1), [4]), Web([], sizes=[4]))
        self.assertEqual(late_sum(Numbers.steady(1, 1), (1, 1, 2)).downs, (((1,),), ((2, 0),)))
        self.assertEqual(forbidden(Numbers.falling(2), (1, 1, 2, 2)), 2)
        self.assertEqual(forbidden(Numbers.steady(1, 1), (2, 1)), 1)
        self.assertIsNone(forbidden(Numbers.steady(1, -1), (5,)))
        self.assertEqual(forbidden(Numbers.steady(1, -1), (5, 5)), 0)
        # The gain from rank 0 falls below 0 two steps above the top alone.
        numbers = Numbers([(1, 1), (1, 1), (1, -9)])
        self.assertIsNone(forbidden(numbers, (1, 1, 1)))
        self.assertEqual(forbidden(numbers, (1, 1, 1, 1)), 0)

    def test_great(self):
        numbers = Numbers.steady(10 ** 12, 10 ** 12)
        web = late_sum(numbers, [40] * 12)
        self.assertEqual(web.sizes, (40,) * 12)
        self.assertEqual(web.downs[10][3][3], numbers.gain(0, 11))


class NormTest(Errors, unittest.TestCase):
    def test_norms(self):
        dice = random.Random(6)
        for kept in balanced_kept():
            rows = weights(kept.web)
            for n in range(kept.top + 1):
                v = [dice.randint(-9, 9) for _ in range(kept.sizes[n])]
                told = norm(kept.web, rows, n, v)
                self.assertEqual(told, sum(one * entry ** 2 for one, entry in zip(rows[n], v)))
                self.assertIs(type(told), int)
                self.assertEqual(norm(kept.web, [list(row) for row in rows], n, tuple(v)), told)

    def test_raised_readings_of_one_level(self):
        seen = 0
        for kept in balanced_kept():
            rows = weights(kept.web)
            for i in range(kept.top + 1):
                for v in pure_basis(kept.web, i):
                    for k in range(kept.top - i):
                        low, high = lift(kept.web, i, v, k), lift(kept.web, i, v, k + 1)
                        seen += 1
                        self.assertEqual(
                            norm(kept.web, rows, i + k + 1, high),
                            kept.numbers.gain(i, k + 1) * norm(kept.web, rows, i + k, low),
                        )
        self.assertGreater(seen, 100)

    def test_refused(self):
        web = Web.shapes(2)
        rows = weights(web)
        for rank in (-1, 3, True, None):
            self.refused(BadRank, {"rank": rank}, norm, web, rows, rank, 5)
        for reading in (5, None, (1,), (1, 2, 3), (1, True)):
            self.refused(BadReading, {"rank": 2}, norm, web, rows, 2, reading)


class MixturesTest(unittest.TestCase):
    """The counts back to one place are means of vals."""

    def test_means_of_vals(self):
        for kept in balanced_kept():
            for n in range(kept.top + 1):
                if not kept.numbers.lively_to(n):
                    continue
                sums = [Fraction(0)] * (n + 1)
                for x in range(kept.sizes[n]):
                    unit_row = [int(y == x) for y in range(kept.sizes[n])]
                    row = [fraction(part)[x] for part in parts(kept, n, unit_row)]
                    self.assertTrue(all(s >= 0 for s in row))
                    self.assertEqual(sum(row), 1)
                    sums = [one + two for one, two in zip(sums, row)]
                    for word in closed_words(4) + ["uuuddd", "uduudd", "uuuudddd"]:
                        self.assertEqual(
                            told_count(kept, (n, x), word, (n, x)),
                            sum(s * kept.numbers.val(i, n, word) for i, s in enumerate(row)),
                        )
                self.assertEqual(sums, list(size_steps(kept.web)[:n + 1]))


if __name__ == "__main__":
    unittest.main()
