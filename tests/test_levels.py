import unittest
from fractions import Fraction
from functools import reduce
from math import gcd, prod

from upsanddowns.errors import BadNumber, BadRank, BadReading, NotLively
from upsanddowns.grids import nulls, rank_of
from upsanddowns.kept import Kept
from upsanddowns.levels import core, level_of, parts, pure_basis, pure_part, pure_row, pures
from upsanddowns.numbers import Numbers
from upsanddowns.sizes import size_steps
from upsanddowns.webs import Web

from tests.helpers import (
    Errors, all_kept, all_tuples, any_webs, fraction, lift, readings_of, sink, slow_rank, unit,
)
from tests.test_numbers import ROWS


def lively_ranks():
    """Kept webs with each rank up to which they are lively."""
    return [(kept, n) for kept in all_kept() for n in range(kept.top + 1) if kept.numbers.lively_to(n)]


def slow_pure_row(numbers, n):
    row = [Fraction(1)]
    for j in range(n):
        row.append(-row[j] * numbers.swaps(n - j, j) / numbers.gain(n - j - 1, j + 1))
    return row


class PuresTest(Errors, unittest.TestCase):
    def test_any_webs(self):
        for web in any_webs() + [kept.web for kept in all_kept()]:
            for n in range(web.top + 1):
                basis = pure_basis(web, n)
                self.assertTrue(all_tuples(basis))
                self.assertEqual(len(basis), pures(web, n))
                self.assertEqual(slow_rank(basis), len(basis))
                self.assertEqual(pures(web, n), web[n] - (slow_rank(web.downs[n - 1]) if n else 0))
                for row in basis:
                    self.assertEqual(len(row), web[n])
                    self.assertFalse(any(sink(web, n, row, 1)) if n else False)
                if n == 0 or web[n - 1] == 0:
                    self.assertEqual(basis, unit(web[n]))
                else:
                    self.assertEqual(basis, nulls(web.downs[n - 1]))

    def test_lively_ranks(self):
        for kept, n in lively_ranks():
            step = size_steps(kept.web)[n]
            self.assertGreaterEqual(step, 0)
            self.assertEqual(pures(kept.web, n), step)
            if n > 0:
                self.assertEqual(rank_of(kept.web.ups[n - 1]), kept.sizes[n - 1])
                self.assertEqual(rank_of(kept.web.downs[n - 1]), kept.sizes[n - 1])

    def test_known(self):
        self.assertEqual(pure_basis(Web.subsets(3), 1), ((1, -1, 0), (1, 0, -1)))
        self.assertEqual(pures(Web([], sizes=[3]), 0), 3)
        self.assertEqual(pure_basis(Web([[]], sizes=[0, 2]), 1), ((1, 0), (0, 1)))
        self.assertEqual(pure_basis(Web([[[]]], sizes=[1, 0]), 1), ())

    def test_refused(self):
        for rank in (-1, 3, True, None, "1"):
            self.refused(BadRank, {"rank": rank}, pures, Web.shapes(2), rank)
            self.refused(BadRank, {"rank": rank}, pure_basis, Web.shapes(2), rank)


class PureRowTest(Errors, unittest.TestCase):
    def test_rows(self):
        seen = 0
        for numbers in ROWS + [kept.numbers for kept in all_kept()]:
            for n in range(6):
                pair = numbers.dead_pair(n)
                if pair is not None:
                    self.refused(NotLively, {"start": pair[0], "steps": pair[1]}, pure_row, numbers, n)
                    continue
                seen += 1
                told = pure_row(numbers, n)
                self.assertEqual(fraction(told), slow_pure_row(numbers, n))
                self.assertTrue(all_tuples(told))
                self.assertGreaterEqual(told[1], 1)
                self.assertEqual(reduce(gcd, told[0], told[1]), 1)
        self.assertGreater(seen, 50)

    def test_known(self):
        self.assertEqual(pure_row(Numbers.steady(1, 1), 0), ((1,), 1))
        self.assertEqual(pure_row(Numbers.steady(1, 1), 2), ((2, -2, 1), 2))
        self.assertEqual(pure_row(Numbers([(1, -2)]), 1), ((2, 1), 2))
        self.assertEqual(pure_row(Numbers.steady(0, 5), 2), ((5, -1, 0), 5))

    def test_refused(self):
        for rank in (-1, True, None):
            self.refused(BadRank, {"rank": rank}, pure_row, Numbers.steady(1, 0), rank)
        self.refused(NotLively, {"start": 0, "steps": 1}, pure_row, Numbers.steady(1, 0), 1)
        self.refused(NotLively, {"start": 1, "steps": 2}, pure_row, Numbers.falling(3), 3)


class PartsTest(Errors, unittest.TestCase):
    def test_pure_parts(self):
        for kept, n in lively_ranks():
            row = slow_pure_row(kept.numbers, n)
            for v in readings_of(n, kept.sizes[n]):
                told = pure_part(kept, n, v)
                self.assertTrue(all_tuples(told))
                want = [Fraction(0)] * len(v)
                for j, e in enumerate(row):
                    moved = lift(kept.web, n - j, sink(kept.web, n, v, j), j)
                    want = [one + e * two for one, two in zip(want, moved)]
                self.assertEqual(fraction(told), want)
                self.assertFalse(any(sink(kept.web, n, want, 1)) if n else False)
                self.assertEqual(told, parts(kept, n, v)[n])
            for v in pure_basis(kept.web, n):
                self.assertEqual(pure_part(kept, n, v), (v, 1))
            if n > 0:
                for v in readings_of(n, kept.sizes[n - 1]):
                    self.assertFalse(any(pure_part(kept, n, lift(kept.web, n - 1, v, 1))[0]))

    def test_parts(self):
        for kept, n in lively_ranks():
            numbers, web = kept.numbers, kept.web
            for v in readings_of(n + 7, kept.sizes[n]):
                told = parts(kept, n, v)
                self.assertEqual(len(told), n + 1)
                self.assertTrue(all_tuples(told))
                rows = [fraction(part) for part in told]
                self.assertEqual([sum(row[x] for row in rows) for x in range(len(v))], list(v))
                for i, row in enumerate(rows):
                    if n > 0:
                        back = lift(web, n - 1, sink(web, n, row, 1), 1)
                        self.assertEqual(back, [(numbers.gain(i, n - i) if i < n else 0) * one for one in row])
                    if n < kept.top:
                        forth = sink(web, n + 1, lift(web, n, row, 1), 1)
                        self.assertEqual(forth, [numbers.gain(i, n + 1 - i) * one for one in row])
                    heart = fraction(core(kept, n, v, i))
                    self.assertEqual(len(heart), web[i])
                    self.assertFalse(any(sink(web, i, heart, 1)) if i else False)
                    self.assertEqual(lift(web, i, heart, n - i), row)

    def test_one_level(self):
        for kept, n in lively_ranks():
            for i in range(n + 1):
                for v in pure_basis(kept.web, i):
                    row = lift(kept.web, i, v, n - i)
                    self.assertEqual(level_of(kept, n, row), i)
                    self.assertEqual(core(kept, n, row, i), (v, 1))
                    for j, part in enumerate(parts(kept, n, row)):
                        self.assertEqual(part, (tuple(row) if i == j else (0,) * len(row), 1))
            self.assertIsNone(level_of(kept, n, [0] * kept.sizes[n]))

    def test_several_levels(self):
        kept = Kept(Web.subsets(3), Numbers.falling(3))
        self.assertIsNone(level_of(kept, 1, [1, 0, 0]))
        self.assertEqual(level_of(kept, 1, (2, 2, 2)), 0)
        self.assertEqual(level_of(kept, 1, (2, -1, -1)), 1)
        self.assertEqual(core(kept, 1, (1, 0, 0), 0), ((1,), 3))
        self.assertEqual(core(kept, 1, (3, 0, 0), 0), ((1,), 1))
        self.assertEqual(pure_part(kept, 1, [1, 0, 0]), ((2, -1, -1), 3))

    def test_gains_below_nought(self):
        kept = Kept(
            Web([[[1, 1]], [[1, 0], [0, 1]]], downs=[[[2, 2]], [[1, 2], [2, 1]]]), Numbers([(1, 4), (1, -1)])
        )
        self.assertEqual(kept.numbers.gain(1, 1), -1)
        self.assertEqual(parts(kept, 2, (1, 0)), (((1, 1), 2), ((1, -1), 2), ((0, 0), 1)))
        self.assertEqual(core(kept, 2, (1, 0), 1), ((1, -1), 2))

    def test_no_places(self):
        empty = Kept(Web([[]], sizes=[0, 0]), Numbers([]))
        self.assertEqual(parts(empty, 1, ()), (((), 1), ((), 1)))
        self.assertEqual(pure_part(empty, 0, []), ((), 1))
        self.assertEqual(core(empty, 1, (), 0), ((), 1))
        self.assertIsNone(level_of(empty, 1, ()))
        late = Kept(Web.shapes(2) >> 2, Numbers.steady(1, 1))
        self.assertEqual(parts(late, 3, (5,))[:2], (((0,), 1), ((0,), 1)))
        self.assertEqual(core(late, 3, (5,), 1), ((), 1))
        self.assertEqual(core(late, 3, (5,), 2), ((5,), 1))
        self.assertEqual(level_of(late, 3, (5,)), 2)

    def test_refused(self):
        kept = Kept(Web.subsets(3), Numbers.falling(3))
        for call in (pure_part, parts, level_of, lambda one, two, three: core(one, two, three, 9)):
            for rank in (-1, 4, True, None):
                self.refused(BadRank, {"rank": rank}, call, kept, rank, 5)
            for reading in (5, None, (1, 2), (1, 2, 3, 4), (1, 2, True), ("1", 2, 3)):
                self.refused(BadReading, {"rank": 1}, call, kept, 1, reading)
            self.refused(BadReading, {"rank": 3}, call, kept, 3, (1, 2))
        for level in (-1, 2, True, None, "0"):
            self.refused(BadNumber, {"name": "level"}, core, kept, 1, (1, 2, 3), level)
        self.refused(BadNumber, {"name": "level"}, core, kept, 3, (1,), 4)
        for call in (pure_part, parts, level_of, lambda one, two, three: core(one, two, three, 0)):
            self.refused(NotLively, {"start": 1, "steps": 2}, call, kept, 3, (1,))
            call(kept, 2, (1, 1, 1))


class GreatTest(unittest.TestCase):
    def test_great_webs(self):
        kept = Kept(Web.shapes(7), Numbers.steady(1, 1))
        v = tuple(10 ** 12 - x for x in range(15))
        rows = [fraction(part) for part in parts(kept, 7, v)]
        self.assertEqual([sum(column) for column in zip(*rows)], list(v))
        self.assertEqual(prod(kept.numbers.gain(0, k) for k in range(1, 8)), kept.numbers.gains(0, 7))


if __name__ == "__main__":
    unittest.main()
