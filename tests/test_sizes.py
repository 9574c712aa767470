import unittest
from math import isqrt, prod

from upsanddowns.errors import BadNumber, BadRank, NotLively
from upsanddowns.grids import determinant, minor, rank_of
from upsanddowns.joins import beside, product
from upsanddowns.kept import Kept
from upsanddowns.numbers import Numbers
from upsanddowns.sizes import determinant_by_sizes, multiplicity, product_by_sizes, root_row, size_steps
from upsanddowns.twosteps import up_down
from upsanddowns.webs import Web

from tests.helpers import Errors, all_kept, all_tuples, any_webs, even_kept, falling_kept, mult, unit, with_diagonal


class StepsTest(Errors, unittest.TestCase):
    def test_steps(self):
        for web in any_webs():
            told = size_steps(web)
            self.assertEqual(told, tuple(web[n] - (web[n - 1] if n else 0) for n in range(web.top + 1)))
            self.assertTrue(all_tuples(told))
        self.assertEqual(size_steps(Web.subsets(3)), (1, 2, 0, -2))

    def test_roots(self):
        for kept in all_kept():
            for n in range(kept.top + 1):
                rows = root_row(kept, n)
                self.assertEqual(
                    rows, tuple((kept.numbers.gain(i, n + 1 - i), size_steps(kept.web)[i]) for i in range(n + 1))
                )
                self.assertTrue(all_tuples(rows))
                for number in range(-12, 60):
                    told = sum(step for root, step in rows if root == number)
                    self.assertEqual(multiplicity(kept, n, number), told)
                    self.assertGreaterEqual(told, 0)

    def test_side_by_side(self):
        one, two = Web.shapes(4), Web.words(4)
        self.assertEqual(
            size_steps(beside(one, two)), tuple(a + b for a, b in zip(size_steps(one), size_steps(two)))
        )

    def test_products(self):
        one, two = Kept(Web.shapes(4), Numbers.steady(1, 1)), Kept(Web.shapes(3) * Web.shapes(3), Numbers.steady(1, 2))
        both = Kept(product(one.web, two.web), Numbers.steady(1, 3))
        for n, size in enumerate(both.sizes):
            self.assertEqual(size, sum(one.sizes[i] * two.sizes[n - i] for i in range(n + 1)))

    def test_falling_sizes(self):
        for kept, m in falling_kept():
            p = kept.sizes
            for i in range(m + 1):
                self.assertEqual(p[i], p[m - i])
            for n in range(1, m + 1):
                if 2 * n <= m + 1:
                    self.assertLessEqual(p[n - 1], p[n])
        # The size of the rank behind them is free.
        fresh = Web(list(Web.subsets(2).ups) + [[[0, 0, 0]]])
        self.assertEqual(Kept(fresh, Numbers.falling(2)).sizes, (1, 2, 1, 3))
        self.assertEqual(falling_kept()[-1][0].sizes, (1, 3, 3, 1, 2))


class DeterminantsTest(Errors, unittest.TestCase):
    def test_by_sizes(self):
        for kept in all_kept():
            for n in range(kept.top + 1):
                q, r = kept.pair_at(n)
                for t in (-12, -5, -3, -2, -1, 0, 1, 2, 7):
                    table = with_diagonal(kept.below(n), q, r + t)
                    told = determinant_by_sizes(kept, n, t)
                    self.assertIs(type(told), int)
                    self.assertEqual(told, determinant(table))
                    if n < kept.top:
                        self.assertEqual(told, determinant(with_diagonal(kept.above(n), 1, t)))

    def test_nought_to_the_power_nought(self):
        # At rank 2 of these subsets the root 1 of level 2 comes with the step 0.
        kept = Kept(Web.subsets(3), Numbers.falling(3))
        self.assertEqual(root_row(kept, 1), ((4, 1), (1, 2)))
        self.assertEqual(root_row(kept, 2), ((3, 1), (0, 2), (-1, 0)))
        self.assertEqual(determinant_by_sizes(kept, 2, 1), 4)
        self.assertEqual(determinant_by_sizes(kept, 2, 0), 0)
        self.assertEqual(determinant_by_sizes(kept, 3, 5), 5)
        self.assertEqual(multiplicity(kept, 2, -1), 0)
        self.assertEqual(multiplicity(kept, 2, 0), 2)
        empty = Kept(Web([], sizes=[0]), Numbers([]))
        self.assertEqual(determinant_by_sizes(empty, 0, -1), 1)

    def test_factors_that_vanish(self):
        for kept in all_kept():
            for n in range(min(kept.top, 3) + 1):
                table = unit(kept.sizes[n])
                for k in range(n + 2):
                    if k > 0:
                        shift = -kept.numbers.gain(n - k + 1, k - 1)
                        table = mult(table, with_diagonal(kept.below(n), 1, shift))
                    size = kept.sizes[n - k] if k <= n else 0
                    self.assertLessEqual(rank_of(table), size)
                    if kept.numbers.lively_to(n) and all(kept.pair_at(m)[0] for m in range(1, n)):
                        self.assertEqual(rank_of(table), size)
                    if size < kept.sizes[n]:
                        rows = range(size + 1)
                        self.assertEqual(minor(table, tuple(rows), tuple(reversed(rows))), 0)

    def test_refused(self):
        kept = Kept(Web.shapes(2), Numbers.steady(1, 1))
        for rank in (-1, 3, True, None):
            self.refused(BadRank, {"rank": rank}, root_row, kept, rank)
            self.refused(BadRank, {"rank": rank}, determinant_by_sizes, kept, rank, None)
            self.refused(BadRank, {"rank": rank}, multiplicity, kept, rank, None)
            self.refused(BadRank, {"rank": rank}, product_by_sizes, kept, rank, None)
        for wrong in (True, None, "1"):
            self.refused(BadNumber, {"name": "shift"}, determinant_by_sizes, kept, 1, wrong)
            self.refused(BadNumber, {"name": "number"}, multiplicity, kept, 1, wrong)
            self.refused(BadNumber, {"name": "steps"}, product_by_sizes, kept, 1, wrong)
        self.refused(BadNumber, {"name": "steps"}, product_by_sizes, kept, 1, -1)


class ProductsTest(Errors, unittest.TestCase):
    def test_by_sizes(self):
        seen = 0
        for kept in all_kept():
            for n in range(kept.top + 1):
                for k in range(4):
                    if min(size_steps(kept.web)[:n + 1]) < 0:
                        pair = kept.numbers.dead_pair(n)
                        told = {"start": pair[0], "steps": pair[1]}
                        self.refused(NotLively, told, product_by_sizes, kept, n, k)
                        continue
                    seen += 1
                    told = product_by_sizes(kept, n, k)
                    steps = size_steps(kept.web)
                    self.assertEqual(told, prod(
                        kept.numbers.gain(i, n - i + l) ** steps[i] for i in range(n + 1) for l in range(1, k + 1)
                    ))
                    self.assertEqual(told, determinant(up_down(kept, n, k)))
        self.assertGreater(seen, 200)

    def test_falling_sizes(self):
        kept = Kept(Web.subsets(4), Numbers.falling(4))
        self.refused(NotLively, {"start": 2, "steps": 1}, product_by_sizes, kept, 3, 1)
        self.refused(BadNumber, {"name": "steps"}, product_by_sizes, kept, 3, None)
        # The numbers are not lively up to rank 3 here either, but the sizes do not fall.
        chain = Kept(Web([[[1]], [[1]], [[1]]], downs=[[[3]], [[4]], [[3]]]), Numbers.falling(3))
        self.assertEqual(chain.numbers.dead_pair(3), (1, 2))
        self.assertEqual(product_by_sizes(chain, 3, 2), 0)
        self.assertEqual(product_by_sizes(chain, 2, 2), 0)
        self.assertEqual(product_by_sizes(chain, 1, 2), 12)

    def test_squares(self):
        seen = 0
        for kept in even_kept():
            for n in range(kept.top + 1):
                for k in range(kept.top + 1 - n):
                    if kept.numbers.lively_to(n + k) and kept.sizes[n] == kept.sizes[n + k]:
                        told = product_by_sizes(kept, n, k)
                        self.assertEqual(isqrt(told) ** 2, told)
                        seen += k > 0
        self.assertGreater(seen, 3)


if __name__ == "__main__":
    unittest.main()
