import random
import unittest
from itertools import permutations

from upsanddowns.errors import BadRank, Unseen
from upsanddowns.matches import match_down, match_size, match_up
from upsanddowns.webs import Web

from tests.helpers import SIDES, Errors, all_tuples, any_webs, lively_kept, random_web, sided


def slow_size(table, rows, columns):
    """The greatest number of pairs, by trying all orders."""
    if rows > columns:
        table = [[table[x][y] for x in range(rows)] for y in range(columns)]
        rows, columns = columns, rows
    return max(
        sum(table[x][order[x]] > 0 for x in range(rows)) for order in permutations(range(columns), rows)
    )


def webs():
    return any_webs() + [random_web(seed, [4, 5, 4, 3], 1) for seed in range(30, 50)]


class MatchTest(Errors, unittest.TestCase):
    def test_against_all_orders(self):
        seen = set()
        for web in webs():
            for n in range(web.top):
                for side in SIDES:
                    table = sided(web, side).ups[n]
                    want = slow_size(table, web[n], web[n + 1])
                    seen.add(want)
                    self.assertEqual(match_size(web, n, side=side), want)
                    self.assertIs(type(match_size(web, n, side=side)), int)
                    up = match_up(web, n, side=side)
                    self.assertEqual(len(up), web[n])
                    pairs = [(x, y) for x, y in enumerate(up) if y is not None]
                    down = match_down(web, n, side=side)
                    self.assertEqual(len(down), web[n + 1])
                    others = [(x, y) for y, x in enumerate(down) if x is not None]
                    for row in (pairs, others):
                        self.assertEqual(len(row), want)
                        self.assertTrue(all(table[x][y] > 0 for x, y in row))
                        self.assertEqual(len({x for x, _ in row}), want)
                        self.assertEqual(len({y for _, y in row}), want)
        self.assertGreater(len(seen), 4)

    def test_results(self):
        web = Web([[[1, 0], [1, 0]]], downs=[[[0, 0], [2, 3]]])
        self.assertEqual(match_up(web, 0), (0, None))
        self.assertEqual(match_down(web, 0), (0, None))
        self.assertEqual(match_size(web, 0, side="downs"), 1)
        self.assertIn(match_up(web, 0, side="downs"), ((None, 0), (None, 1)))
        empty = Web([[[], []], []], sizes=[2, 0, 3])
        self.assertEqual((match_up(empty, 0), match_down(empty, 0), match_size(empty, 0)), ((None, None), (), 0))
        self.assertEqual((match_up(empty, 1), match_down(empty, 1), match_size(empty, 1)), ((), (None,) * 3, 0))
        self.assertTrue(all_tuples(match_up(Web.shapes(4), 3)))

    def test_side_that_is_not_told(self):
        web = Web([[[1]]], downs=[[[0]]])
        self.assertEqual((match_up(web, 0), match_down(web, 0), match_size(web, 0)), ((0,), (0,), 1))
        self.assertEqual((match_up(web, 0, side="downs"), match_size(web, 0, side="downs")), ((None,), 0))
        self.assertEqual(match_down(~web, 0, side="ups"), (None,))

    def test_lively_webs(self):
        for kept in lively_kept():
            for n in range(kept.top):
                for side in SIDES:
                    self.assertEqual(match_size(kept.web, n, side=side), kept.sizes[n])

    def test_refused(self):
        web = Web.shapes(2)
        for call in (match_up, match_down, match_size):
            for rank in (-1, 3, True, None, "0"):
                self.refused(BadRank, {"rank": rank}, call, web, rank)
            self.refused(Unseen, {"rank": 3}, call, web, 2)
            self.refused(Unseen, {"rank": 3}, call, web, 2, side="downs")

    def test_great_webs(self):
        dice = random.Random(3)
        web = Web([[[10 ** 12 * (dice.random() < 0.08) * 1 for _ in range(40)] for _ in range(40)]])
        found = match_up(web, 0)
        pairs = [(x, y) for x, y in enumerate(found) if y is not None]
        self.assertEqual(len(pairs), match_size(web, 0))
        self.assertTrue(all(web.ups[0][x][y] for x, y in pairs))


if __name__ == "__main__":
    unittest.main()
