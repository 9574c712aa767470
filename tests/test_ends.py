import unittest

from upsanddowns.ends import ends_at, is_one_to_one, layer_bound, level_bound, reaches_all, turning_rank
from upsanddowns.errors import BadNumber, BadRank, BadReading, NotBalanced, Unseen
from upsanddowns.kept import Kept
from upsanddowns.levels import pures
from upsanddowns.living import alive, late_sum
from upsanddowns.lotsapart import greatest_apart, is_layered
from upsanddowns.makers import chain
from upsanddowns.numbers import Numbers
from upsanddowns.webs import Web
from upsanddowns.weights import weights

from tests.helpers import (
    SIDES, Errors, all_kept, all_tuples, any_webs, falling_kept, random_web, sided, slow_rank, table_of, unlike_kept,
)
from tests.test_lotsapart import slow_most


def balanced_kept():
    """Balanced kept webs, each with weights, lively ones and others."""
    two = Numbers([(1, 2), (1, 0), (1, -2), (1, 3)])
    found = [kept for kept in all_kept() if weights(kept.web) is not None]
    found += [kept for kept, _ in falling_kept() if weights(kept.web) is not None]
    found.append(Kept(chain(two, 0, 4) + chain(two, 1, 4) + chain(two, 3, 4), two))
    found.append(Kept(late_sum(Numbers.falling(3), (1, 3, 3, 1)), Numbers.falling(3)))
    return [(kept, weights(kept.web)) for kept in found]


def tripled(rows):
    """The weights three times as great, as lists."""
    return [[3 * one for one in row] for row in rows]


class RaisingTest(Errors, unittest.TestCase):
    def test_against_ranks(self):
        seen = set()
        for web in any_webs() + [random_web(seed, [2, 3, 3, 2], 1) for seed in range(8)]:
            for n in range(web.top):
                for side in SIDES:
                    table = sided(web, side).ups[n]
                    rank = slow_rank(table)
                    one, every = is_one_to_one(web, n, side=side), reaches_all(web, n, side=side)
                    self.assertIs(one, rank == web[n])
                    self.assertIs(every, rank == web[n + 1])
                    seen.add((one, every))
        self.assertEqual(len(seen), 4)

    def test_edges(self):
        empty = Web([[[], []], []], sizes=[2, 0, 3])
        self.assertEqual((is_one_to_one(empty, 0), reaches_all(empty, 0)), (False, True))
        self.assertEqual((is_one_to_one(empty, 1), reaches_all(empty, 1)), (True, False))
        web = Web([[[1, 0]]], downs=[[[0, 0]]])
        self.assertIs(is_one_to_one(web, 0), True)
        self.assertIs(is_one_to_one(web, 0, side="downs"), False)

    def test_refused(self):
        web = Web.shapes(2)
        for call in (is_one_to_one, reaches_all):
            for rank in (-1, 3, True, None):
                self.refused(BadRank, {"rank": rank}, call, web, rank)
            self.refused(Unseen, {"rank": 3}, call, web, 2)
            self.refused(Unseen, {"rank": 3}, call, web, 2, side="downs")

    def test_side_that_is_not_told(self):
        web = Web([[[1]]], downs=[[[0]]])
        self.assertEqual((is_one_to_one(web, 0), reaches_all(web, 0), layer_bound(web, 1)), (True, True, 1))
        self.assertEqual((is_one_to_one(~web, 0), reaches_all(~web, 0), layer_bound(~web, 1)), (False, False, 2))

    def test_turning_ranks(self):
        seen = set()
        webs = [kept.web for kept in all_kept()] + [random_web(seed, [1, 2, 2, 1], 2) for seed in range(30)]
        for web in webs + any_webs():
            for top in range(web.top + 1):
                ranks = [slow_rank(web.ups[n]) for n in range(top)]
                turns = [
                    t for t in range(top + 1)
                    if all(ranks[n] == web[n] for n in range(t)) and all(ranks[n] == web[n + 1] for n in range(t, top))
                ]
                found = turning_rank(web, top)
                self.assertEqual(found, turns[0] if turns else None)
                seen.add(found)
                if found is not None:
                    self.assertIs(type(found), int)
                    for t in turns:
                        self.assertEqual(len(greatest_apart(web, top=top)), web[t])
        self.assertTrue({None, 0, 1, 2, 3} <= seen)
        self.assertEqual(turning_rank(Web.subsets(4), 4), 2)
        self.assertEqual(turning_rank(Web.subsets(3), 3), 1)
        for top in (-1, 5, True, None):
            self.refused(BadRank, {"rank": top}, turning_rank, Web.subsets(4), top)


class LayersTest(Errors, unittest.TestCase):
    def test_against_ranks(self):
        for web in any_webs() + [kept.web for kept in all_kept()]:
            for side in SIDES:
                for many in range(web.top + 3):
                    want = sum(web.sizes)
                    for n in range(web.top - many + 1):
                        want -= slow_rank(table_of(sided(web, side), n, "u" * many))
                    found = layer_bound(web, many, side=side)
                    self.assertIs(type(found), int)
                    self.assertEqual(found, want)

    def test_bound(self):
        tight = 0
        for web in any_webs() + [random_web(seed, [2, 3, 3, 2], 1) for seed in range(8)]:
            if sum(web.sizes) > 11:
                continue
            for side in SIDES:
                for many in range(web.top + 2):
                    most = slow_most(web, web.top, many, side)
                    self.assertLessEqual(most, layer_bound(web, many, side=side))
                    tight += most == layer_bound(web, many, side=side)
        self.assertGreater(tight, 30)

    def test_edges(self):
        self.assertEqual(layer_bound(Web.shapes(4), 0), 0)
        self.assertEqual(layer_bound(Web.shapes(4), 99), 12)
        self.assertEqual(layer_bound(Web([], sizes=[0]), 1), 0)
        for many in (-1, True, None):
            self.refused(BadNumber, {"name": "many"}, layer_bound, Web.shapes(2), many)


class LevelsTest(Errors, unittest.TestCase):
    def test_ends(self):
        ended = 0
        for kept, rows in balanced_kept():
            for n in range(kept.top + 1):
                want = tuple(
                    i for i in range(n + 1)
                    if alive(kept.numbers, i, n) and pures(kept.web, i) > 0 and kept.numbers.gain(i, n + 1 - i) == 0
                )
                found = ends_at(kept, rows, n)
                self.assertTrue(all_tuples(found))
                self.assertEqual(found, want)
                self.assertEqual(ends_at(kept, tripled(rows), n), want)
                if n < kept.top:
                    ended += found != ()
                    self.assertIs(is_one_to_one(kept.web, n), found == ())
                    self.assertIs(reaches_all(kept.web, n), pures(kept.web, n + 1) == 0)
        self.assertGreater(ended, 5)

    def test_level_bounds(self):
        for kept, rows in balanced_kept():
            for many in range(kept.top + 3):
                want = sum(
                    pures(kept.web, i) * min(many, sum(alive(kept.numbers, i, n) for n in range(kept.top + 1)))
                    for i in range(kept.top + 1)
                )
                found = level_bound(kept, rows, many)
                self.assertIs(type(found), int)
                self.assertEqual(found, want)
                self.assertEqual(level_bound(kept, tripled(rows), many), want)
                if sum(kept.sizes) <= 11:
                    for side in SIDES:
                        self.assertLessEqual(slow_most(kept.web, kept.top, many, side), found)

    def test_bounds_that_are_reached(self):
        reached = 0
        for kept, rows in balanced_kept():
            levels = [i for i in range(kept.top + 1) if pures(kept.web, i) > 0]
            if not any(all(i <= t and alive(kept.numbers, i, t) for i in levels) for t in range(kept.top + 1)):
                continue
            for many in range(kept.top + 3):
                sizes = sorted(kept.sizes, reverse=True)[:many]
                self.assertEqual(level_bound(kept, rows, many), sum(sizes))
                starts = range(max(1, kept.top + 2 - many))
                lots = [
                    [(n, x) for n in range(start, min(kept.top + 1, start + many)) for x in range(kept.sizes[n])]
                    for start in starts
                ]
                best = max(lots, key=len)
                self.assertEqual(len(best), sum(sizes))
                self.assertIs(is_layered(kept.web, best, many), True)
                reached += 1
        self.assertGreater(reached, 60)

    def test_refused(self):
        kept = Kept(chain(Numbers.steady(1, 1), 0, 2), Numbers.steady(1, 1))
        good = weights(kept.web)
        self.assertEqual(good, ((1,), (1,), (2,)))
        calls = (lambda rows: ends_at(kept, rows, 9), lambda rows: level_bound(kept, rows, -1))
        for call in calls:
            for rows in (None, 5, "abc", {}):
                self.refused(BadReading, {"rank": -1}, call, rows)
            for wrong in (None, 1, (), (1, 1), (0,), (-1,), (True,), ("1",)):
                self.refused(BadReading, {"rank": 1}, call, [(1,), wrong, None])
            self.refused(BadReading, {"rank": 2}, call, [(1,), (1,)])
            self.refused(BadReading, {"rank": 3}, call, [(1,), (1,), (2,), (1,)])
        for rank in (-1, 3, True, None):
            self.refused(BadRank, {"rank": rank}, ends_at, kept, [(1,)] * 3, rank)
        for many in (-1, True, None):
            self.refused(BadNumber, {"name": "many"}, level_bound, kept, [(1,)] * 3, many)
        for call in (ends_at, level_bound):
            self.refused(NotBalanced, {"rank": 1}, call, kept, [(1,)] * 3, 2)
            self.refused(NotBalanced, {"rank": 0}, call, kept, [(1,), (2,), (4,)], 2)
        for one in unlike_kept():
            if weights(one.web) is None:
                ones = [(1,) * size for size in one.sizes]
                with self.assertRaises(NotBalanced):
                    ends_at(one, ones, 0)


if __name__ == "__main__":
    unittest.main()
