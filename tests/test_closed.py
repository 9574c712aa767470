import unittest

from upsanddowns.closed import closed_total, sizes_beneath, sizes_by_totals
from upsanddowns.errors import (
    BadRank, BadReading, BadSize, BadTable, BadWord, NoneSuch, NotLively, NotPositive,
)
from upsanddowns.kept import Kept
from upsanddowns.normal import told_count
from upsanddowns.numbers import Numbers
from upsanddowns.sizes import root_row, size_steps
from upsanddowns.totals import total
from upsanddowns.twosteps import down_up
from upsanddowns.webs import Web
from upsanddowns.words import rise

from tests.helpers import (
    Errors, all_kept, all_tuples, closed_words, even_kept, places_of, slow_rank, turning, with_diagonal, words_to,
)
from tests.test_numbers import ROWS


class ClosedTest(Errors, unittest.TestCase):
    def test_totals(self):
        for kept in all_kept():
            for n in range(kept.top + 1):
                for word in closed_words(6) + ["uuuudddd", "dduuuudd"]:
                    told = closed_total(kept.numbers, kept.sizes, n, word)
                    self.assertEqual(told, total(kept, n, word))
                    self.assertEqual(told, closed_total(kept.numbers, list(kept.sizes[:n + 1]), n, word))

    def test_any_sizes(self):
        for numbers in ROWS:
            for sizes in ([0], [3], [2, 5, 1, 0], (0, 0, 4)):
                for n in range(len(sizes)):
                    for word in words_to(5):
                        told = closed_total(numbers, sizes, n, word)
                        self.assertIs(type(told), int)
                        want = 0
                        if rise(word) == 0:
                            steps = [size - (sizes[i - 1] if i else 0) for i, size in enumerate(sizes)]
                            want = sum(steps[i] * numbers.val(i, n, word) for i in range(n + 1))
                        self.assertEqual(told, want)

    def test_between_vals(self):
        equal = less = 0
        for kept in all_kept():
            if any(q < 0 or r < 0 for q, r in kept.numbers.pairs + (kept.numbers.tail,)):
                continue
            lowest = min([n for n in range(kept.top + 1) if kept.sizes[n] > 0], default=None)
            for n, x in places_of(kept.web):
                for word in closed_words(6):
                    told = told_count(kept, (n, x), word, (n, x))
                    self.assertLessEqual(kept.numbers.val(n, n, word), told)
                    self.assertLessEqual(told, kept.numbers.val(lowest, n, word))
                if kept.numbers.is_positive and all(kept.pair_at(m)[0] for m in range(10)):
                    for k in range(1, 4):
                        word = turning(k)
                        same = kept.numbers.val(n, n, word) == told_count(kept, (n, x), word, (n, x))
                        none = not any(down_up(kept, n, j)[x][x] for j in range(1, k + 1))
                        self.assertIs(same, none)
                        equal += same
                        less += not same
        self.assertGreater(min(equal, less), 20)

    def test_squares_of_strands(self):
        for kept in even_kept():
            for n in range(kept.top):
                squares = sum(entry ** 2 for row in kept.web.ups[n] for entry in row)
                self.assertEqual(squares, sum(root * step for root, step in root_row(kept, n)))
                if kept.web.is_simple:
                    self.assertEqual(squares, sum(map(sum, kept.web.ups[n])))

    def test_refused(self):
        one = Numbers.steady(1, 1)
        for sizes in (None, 5, "12", (), [], {}):
            self.refused(BadSize, {"rank": -1}, closed_total, one, sizes, -1, 5)
        for sizes, rank in (([1, -1, None], 1), ([True], 0), ([1, 2, "3"], 2), ([None], 0)):
            self.refused(BadSize, {"rank": rank}, closed_total, one, sizes, -1, 5)
        for rank in (-1, 2, True, None):
            self.refused(BadRank, {"rank": rank}, closed_total, one, (1, 1), rank, 5)
        self.refused(BadWord, {"at": -1}, closed_total, one, (1, 1), 1, 5)
        self.refused(BadWord, {"at": 2}, closed_total, one, (1, 1), 1, "uu-")


class BeneathTest(Errors, unittest.TestCase):
    def test_one_table_tells_the_sizes(self):
        seen = 0
        for kept in all_kept():
            for n in range(kept.top):
                asked = [m for m in range(1, n + 1) if kept.pair_at(m)[0] == 0]
                pair = kept.numbers.dead_pair(n)
                if pair is not None:
                    told = {"start": pair[0], "steps": pair[1]}
                    self.refused(NotLively, told, sizes_beneath, kept.numbers, n, kept.above(n))
                elif asked:
                    self.refused(NotPositive, {"rank": asked[0]}, sizes_beneath, kept.numbers, n, kept.above(n))
                else:
                    seen += 1
                    told = sizes_beneath(kept.numbers, n, kept.above(n))
                    self.assertEqual(told, kept.sizes[:n + 1])
                    self.assertTrue(all_tuples(told))
                    roots = [root for root, _ in root_row(kept, n)]
                    self.assertEqual(len(set(roots)), n + 1)
                    for root, step in root_row(kept, n):
                        less = slow_rank(with_diagonal(kept.above(n), 1, -root))
                        self.assertEqual(kept.sizes[n] - less, step)
        self.assertGreater(seen, 30)

    def test_tables_that_tell_none(self):
        one = Numbers.steady(1, 1)
        self.assertEqual(sizes_beneath(one, 1, [[2, 0], [0, 1]]), (1, 2))
        self.refused(NoneSuch, {"rank": 1}, sizes_beneath, one, 1, [[2, 0], [0, 3]])
        self.refused(NoneSuch, {"rank": 1}, sizes_beneath, one, 1, [[2, 1], [0, 2]])
        self.assertEqual(sizes_beneath(one, 1, []), (0, 0))
        self.assertEqual(sizes_beneath(one, 0, ((1, 0), (0, 1))), (2,))
        self.refused(NoneSuch, {"rank": 0}, sizes_beneath, one, 0, [[2]])

    def test_refused(self):
        flat = Numbers.steady(0, 0)
        for rank in (-1, True, None):
            self.refused(BadRank, {"rank": rank}, sizes_beneath, flat, rank, 5)
        for table in (5, None, [[1, 2]], [[1], [2]], [[-1]], [[True]], [[1, 2], [3]], [1], "", [[]]):
            self.refused(BadTable, {"rank": 2, "side": "ups"}, sizes_beneath, flat, 2, table)
        self.refused(NotLively, {"start": 0, "steps": 1}, sizes_beneath, flat, 2, [[1]])
        nought = Numbers([(0, 1), (1, 1), (0, 1), (0, 1)])
        self.assertEqual(sizes_beneath(nought, 1, [[2]]), (1, 1))
        self.refused(NotPositive, {"rank": 2}, sizes_beneath, nought, 2, [[7]])
        self.refused(NotPositive, {"rank": 1}, sizes_beneath, Numbers.steady(0, 1), 3, [[7]])
        self.refused(NotPositive, {"rank": 1}, sizes_beneath, Numbers.steady(0, 1), 1, [[7]])
        self.assertEqual(sizes_beneath(Numbers.steady(0, 1), 0, [[1]]), (1,))


class ByTotalsTest(Errors, unittest.TestCase):
    def totals(self, kept, n, upward):
        return [total(kept, n, turning(j, upward)) for j in range(n + 1)]

    def test_totals_tell_the_sizes(self):
        seen = 0
        for kept in all_kept():
            for n in range(kept.top + 1):
                for upward in (True, False):
                    totals = self.totals(kept, n, upward)
                    pair = kept.numbers.dead_pair(n)
                    asked = [m for m in range(1, 2 * n) if kept.pair_at(m)[0] == 0] if upward else []
                    if pair is not None:
                        told = {"start": pair[0], "steps": pair[1]}
                        self.refused(NotLively, told, sizes_by_totals, kept.numbers, n, totals, upward=upward)
                    elif asked:
                        told = {"rank": asked[0]}
                        self.refused(NotPositive, told, sizes_by_totals, kept.numbers, n, totals, upward=upward)
                    else:
                        seen += 1
                        told = sizes_by_totals(kept.numbers, n, tuple(totals), upward=upward)
                        self.assertEqual(told, kept.sizes[:n + 1])
                        self.assertTrue(all_tuples(told))
        self.assertGreater(seen, 80)

    def test_any_sizes(self):
        one = Numbers([(1, 2), (2, -1), (3, 5)])
        self.assertTrue(one.lively_to(3))
        for sizes in ([4, 1, 7, 0], [0, 0, 0, 0], [3, -2, 5, -9]):
            steps = [size - (sizes[i - 1] if i else 0) for i, size in enumerate(sizes)]
            for upward in (True, False):
                totals = [
                    sum(step * one.val(i, 3, turning(j, upward)) for i, step in enumerate(steps)) for j in range(4)
                ]
                self.assertEqual(sizes_by_totals(one, 3, totals, upward=upward), tuple(sizes))
        self.assertEqual(sizes_by_totals(one, 0, [5]), (5,))

    def test_no_such_sizes(self):
        one = Numbers.steady(1, 2)
        self.assertEqual(sizes_by_totals(one, 1, [3, 8]), (1, 3))
        self.assertEqual(sizes_by_totals(one, 1, [3, 4]), (-1, 3))
        self.refused(NoneSuch, {"rank": 1}, sizes_by_totals, one, 1, [3, 7])
        self.refused(NoneSuch, {"rank": 1}, sizes_by_totals, one, 1, [3, 7], upward=False)

    def test_same_totals_or_not(self):
        shapes, words = Kept(Web.shapes(5), Numbers.steady(1, 1)), Kept(Web.words(5), Numbers.steady(1, 1))
        for word in closed_words(8):
            self.assertEqual(total(shapes, 4, word), total(words, 4, word))
        self.assertNotEqual(self.totals(shapes, 5, True), self.totals(words, 5, True))
        self.assertNotEqual(self.totals(shapes, 5, False), self.totals(words, 5, False))
        self.assertEqual(size_steps(shapes.web)[:5], size_steps(words.web)[:5])

    def test_refused(self):
        flat = Numbers.steady(0, 0)
        for rank in (-1, True, None):
            self.refused(BadRank, {"rank": rank}, sizes_by_totals, flat, rank, 5)
        for totals in (5, None, [1], [1, 2, 3], [1, True], [1, "2"]):
            self.refused(BadReading, {"rank": 1}, sizes_by_totals, flat, 1, totals)
        self.refused(NotLively, {"start": 0, "steps": 1}, sizes_by_totals, flat, 1, [1, 2])
        none = Numbers.steady(0, 1)
        self.refused(NotPositive, {"rank": 1}, sizes_by_totals, none, 1, [1, 2])
        self.assertEqual(sizes_by_totals(none, 1, [1, 1], upward=False), (1, 1))
        self.assertEqual(sizes_by_totals(none, 0, [1]), (1,))
        late = Numbers([(1, 1), (1, 1), (1, 1), (0, 1), (0, 1)])
        self.refused(NotPositive, {"rank": 3}, sizes_by_totals, late, 2, [1, 1, 1])
        self.assertEqual(sizes_by_totals(late.changed(3, (2, 1)), 2, [0, 0, 0]), (0, 0, 0))


if __name__ == "__main__":
    unittest.main()
