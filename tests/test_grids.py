import random
import unittest
from fractions import Fraction
from functools import reduce
from itertools import combinations, permutations
from math import gcd

from upsanddowns.errors import BadLot, BadReading, BadTable
from upsanddowns.grids import determinant, minor, nulls, rank_of, solve

from tests.helpers import Errors, all_tuples, mult, slow_determinant, slow_rank


def grids():
    """Tables of many forms and ranks, with great entries, entries below 0 and columns of 0 among them."""
    dice = random.Random(11)
    found = [
        [], [[]], [[], [], []], [[0]], [[-3]], [[0, 0], [0, 0]], [[0, 1], [1, 0]], [[0, 2, -4], [0, -1, 2]],
        [[1, 2, 3], [2, 4, 6], [1, 0, 1]], [[0, 0, 5]], [[0], [0], [7]],
    ]
    for _ in range(60):
        rows, columns, inner = dice.randint(1, 4), dice.randint(1, 5), dice.randint(1, 3)
        one = [[dice.randint(-4, 4) for _ in range(inner)] for _ in range(rows)]
        two = [[dice.choice([0, dice.randint(-3, 3)]) for _ in range(columns)] for _ in range(inner)]
        found.append([list(row) for row in mult(one, two)])
    for _ in range(20):
        size = dice.randint(1, 4)
        found.append([[dice.randint(-10 ** 14, 10 ** 14) for _ in range(size)] for _ in range(size)])
    return found


def width_of(table):
    return len(table[0]) if table else 0


def acted(table, row):
    return [sum(one * two for one, two in zip(line, row)) for line in table]


def free_columns(table):
    """The columns that the columns before them tell."""
    return [
        f for f in range(width_of(table))
        if slow_rank([row[:f + 1] for row in table]) == slow_rank([row[:f] for row in table])
    ]


class DeterminantTest(Errors, unittest.TestCase):
    def test_square_tables(self):
        seen = 0
        for table in grids():
            if len(table) == width_of(table):
                seen += 1
                self.assertEqual(determinant(table), slow_determinant(table))
                self.assertEqual(determinant(tuple(tuple(row) for row in table)), slow_determinant(table))
            else:
                self.refused(BadTable, {"rank": 0, "side": "ups"}, determinant, table)
        self.assertGreater(seen, 20)

    def test_orders_of_rows(self):
        table = [[0, 2, 1, 0], [3, 0, 0, 1], [0, 0, 4, 5], [1, 1, 0, 0]]
        for order in permutations(range(4)):
            sign = (-1) ** sum(order[a] > order[b] for a, b in combinations(range(4), 2))
            self.assertEqual(determinant([table[at] for at in order]), sign * slow_determinant(table))

    def test_empty(self):
        self.assertEqual(determinant([]), 1)
        self.assertEqual(determinant(()), 1)
        self.refused(BadTable, {"rank": 0, "side": "ups"}, determinant, [[]])

    def test_great(self):
        dice = random.Random(3)
        one = [[dice.randint(-10 ** 12, 10 ** 12) for _ in range(30)] for _ in range(30)]
        self.assertEqual(determinant(mult(one, one)), determinant(one) ** 2)
        self.assertEqual(determinant(one[:29] + one[:1]), 0)

    def test_refused(self):
        for table in (None, 3, "", [1], [[1, 2], [3]], [[1, 2]], [[1], [2]], [[True]], [["1"]], {}, [[1, None], [1, 1]]):
            self.refused(BadTable, {"rank": 0, "side": "ups"}, determinant, table)


class RankTest(Errors, unittest.TestCase):
    def test_ranks(self):
        for table in grids():
            self.assertEqual(rank_of(table), slow_rank(table))
            turned_over = [list(column) for column in zip(*table)]
            self.assertEqual(rank_of(turned_over), slow_rank(table))

    def test_empty(self):
        self.assertEqual([rank_of([]), rank_of([[]]), rank_of([(), ()]), rank_of([[0, 0]])], [0, 0, 0, 0])


class NullsTest(Errors, unittest.TestCase):
    def test_nulls(self):
        for table in grids():
            told = nulls(table)
            free = free_columns(table)
            self.assertEqual(len(told), len(free))
            self.assertTrue(all_tuples(told))
            for f, row in zip(free, told):
                self.assertEqual(len(row), width_of(table))
                self.assertFalse(any(acted(table, row)))
                self.assertEqual(reduce(gcd, row), 1)
                self.assertTrue(all(row[other] == 0 for other in free if other != f))
                self.assertNotEqual(row[f], 0)
                self.assertGreater([one for one in row if one != 0][0], 0)

    def test_known(self):
        self.assertEqual(nulls([]), ())
        self.assertEqual(nulls([[], []]), ())
        self.assertEqual(nulls([[0, 0]]), ((1, 0), (0, 1)))
        self.assertEqual(nulls([[2, 4, 6]]), ((2, -1, 0), (3, 0, -1)))
        self.assertEqual(nulls([[0, 2, -4]]), ((1, 0, 0), (0, 2, 1)))
        self.assertEqual(nulls([[1, 0], [0, 1]]), ())
        self.assertEqual(nulls([[-6, 4]]), ((2, 3),))


class SolveTest(Errors, unittest.TestCase):
    def test_targets_that_are_reached(self):
        dice = random.Random(8)
        for table in grids():
            width = width_of(table)
            for _ in range(3):
                target = acted(table, [dice.randint(-5, 5) for _ in range(width)])
                row, den = solve(table, target)
                self.assertEqual(len(row), width)
                self.assertGreaterEqual(den, 1)
                self.assertEqual(reduce(gcd, row, den), 1)
                self.assertEqual(acted(table, row), [den * entry for entry in target])
                self.assertTrue(all(row[f] == 0 for f in free_columns(table)))
                self.assertTrue(all_tuples((row, den)))

    def test_any_targets(self):
        dice = random.Random(9)
        missed = reached = 0
        for table in grids():
            for _ in range(3):
                target = [dice.randint(-3, 3) for _ in table]
                wide = [list(row) + [entry] for row, entry in zip(table, target)]
                found = solve(table, target)
                if slow_rank(wide) > slow_rank(table):
                    self.assertIsNone(found)
                    missed += 1
                else:
                    self.assertEqual(acted(table, [Fraction(one, found[1]) for one in found[0]]), target)
                    reached += 1
        self.assertGreater(min(missed, reached), 20)

    def test_known(self):
        self.assertEqual(solve([], []), ((), 1))
        self.assertEqual(solve([[], []], (0, 0)), ((), 1))
        self.assertIsNone(solve([[], []], (0, 1)))
        self.assertEqual(solve([[2]], [3]), ((3,), 2))
        self.assertEqual(solve([[-2]], [3]), ((-3,), 2))
        self.assertEqual(solve([[2, 1], [0, 0]], [4, 0]), ((2, 0), 1))
        self.assertIsNone(solve([[2, 1], [4, 2]], [1, 1]))
        self.assertEqual(solve([[0, 0]], [0]), ((0, 0), 1))

    def test_refused(self):
        self.refused(BadTable, {"rank": 0, "side": "ups"}, solve, [[1], [1, 2]], 5)
        for target in (None, 5, [1], [1, 2, 3], [1, True], [1, "2"]):
            self.refused(BadReading, {"rank": 0}, solve, [[1], [2]], target)
        self.refused(BadReading, {"rank": 0}, solve, [], [0])


class MinorTest(Errors, unittest.TestCase):
    def test_minors(self):
        table = [[1, 2, 0, 4], [0, 3, -1, 5], [2, 2, 7, 1]]
        for many in range(4):
            for rows in permutations(range(3), many):
                for columns in permutations(range(4), many):
                    part = [[table[x][y] for y in columns] for x in rows]
                    self.assertEqual(minor(table, rows, list(columns)), slow_determinant(part))

    def test_empty(self):
        self.assertEqual(minor([], [], []), 1)
        self.assertEqual(minor([[]], (), ()), 1)
        self.assertEqual(minor([[5]], (), ()), 1)

    def test_refused(self):
        table = [[1, 2, 3], [4, 5, 6]]
        self.refused(BadTable, {"rank": 0, "side": "ups"}, minor, [[1], []], 5, 5)
        for rows in (None, 5, "0", {}):
            self.refused(BadLot, {"at": -1}, minor, table, rows, [9])
            self.refused(BadLot, {"at": -1}, minor, table, [0], rows)
        for row, at in (([0, 2], 1), ([-1], 0), ([1, 0, 1], 2), ([True], 0), ([0, None], 1), (["0"], 0), ([[0]], 0)):
            self.refused(BadLot, {"at": at}, minor, table, row, [9])
        for row, at in (([0, 3], 1), ([-1], 0), ([1, 0, 1], 2), ([True], 0)):
            self.refused(BadLot, {"at": at}, minor, table, [0], row)
        self.refused(BadLot, {"at": -1}, minor, table, [0], [0, 1])
        self.refused(BadLot, {"at": -1}, minor, table, [0, 1], [])
        self.refused(BadLot, {"at": 0}, minor, [], [0], [0])
        self.refused(BadLot, {"at": 0}, minor, [[], []], [0], [0])


class FormsTest(Errors, unittest.TestCase):
    def test_tables_refused(self):
        for table in (None, 3, "ab", [1], [[1, 2], [3]], [[1], [2.0]], [[True]], [["1"]], {}, [[1], None]):
            for call in (rank_of, nulls, lambda one: solve(one, 5), lambda one: minor(one, 5, 5)):
                self.refused(BadTable, {"rank": 0, "side": "ups"}, call, table)


if __name__ == "__main__":
    unittest.main()
