import random
import unittest

from upsanddowns.errors import BadLot, BadNumber, BadPlace, BadRank, NotLively
from upsanddowns.gates import ways_apart
from upsanddowns.joins import product
from upsanddowns.kept import Kept
from upsanddowns.lotsapart import (
    comes_before, greatest_apart, is_apart, is_layered, most_layered, parting_rows, parting_ways,
)
from upsanddowns.makers import chain
from upsanddowns.numbers import Numbers
from upsanddowns.webs import Web

from tests.helpers import (
    SIDES, Errors, all_tuples, any_webs, falling_kept, higher_places, lively_kept, places_of, random_web,
    sided, told_otherwise,
)


def webs():
    return any_webs() + [random_web(seed, [2, 3, 3, 2], 1) for seed in range(80, 92)] + [
        random_web(92, [2, 4, 1, 4], 1), Web([[[1, 0]], [[0], [1]]], downs=[[[0, 0]], [[0], [0]]]),
        Web([[[], []], []], sizes=[2, 0, 3]),
    ]


def order_of(web, top, side):
    """For each place of the ranks 0 to top the places that it comes before."""
    low = web.cut(top)
    return {place: higher_places(low, place, side) for place in places_of(low)}


def longest(lot, later):
    """The greatest number of places of the lot in a row, each of which comes before the next one."""
    most = {}
    for place in sorted(lot, reverse=True):
        most[place] = 1 + max([most[other] for other in lot if other in later[place]], default=0)
    return max(most.values(), default=0)


def slow_most(web, top, many, side):
    """The greatest number of places of a lot made of so many lots apart, by trying all lots."""
    later = order_of(web, top, side)
    places = sorted(later)
    best = 0
    for number in range(2 ** len(places)):
        lot = [place for at, place in enumerate(places) if number >> at & 1]
        if len(lot) > best and longest(lot, later) <= many:
            best = len(lot)
    return best


def unions(lot, later, many):
    """True if the lot is a union of so many lots apart, found by trying."""
    if not lot:
        return True
    if many == 0:
        return False
    first, rest = lot[0], lot[1:]

    def grow(apart, left, rest):
        if not rest:
            return unions(left, later, many - 1)
        one, more = rest[0], rest[1:]
        free = all(one not in later[two] and two not in later[one] for two in apart)
        return (free and grow(apart + [one], left, more)) or grow(apart, left + [one], more)

    return grow([first], [], rest)


class OrderTest(Errors, unittest.TestCase):
    def test_comes_before(self):
        seen = {True: 0, False: 0}
        for web in webs():
            for side in SIDES:
                later = order_of(web, web.top, side)
                for place in later:
                    for other in later:
                        found = comes_before(web, list(place), other, side=side)
                        self.assertIs(found, other in later[place])
                        seen[found] += 1
        self.assertGreater(min(seen.values()), 300)

    def test_apart_and_layered(self):
        dice = random.Random(11)
        seen = {True: 0, False: 0}
        for web in webs():
            for side in SIDES:
                later = order_of(web, web.top, side)
                for many in range(7):
                    lot = dice.sample(sorted(later), min(many, len(later)))
                    told = told_otherwise([list(place) for place in lot], many)
                    for layers in range(4):
                        found = is_layered(web, told, layers, side=side)
                        self.assertIs(found, longest(lot, later) <= layers)
                        self.assertIs(found, unions(lot, later, layers))
                        seen[found] += 1
                    self.assertIs(is_apart(web, told, side=side), longest(lot, later) <= 1)
        self.assertGreater(min(seen.values()), 200)

    def test_edges(self):
        web = Web.shapes(3)
        self.assertIs(is_apart(web, []), True)
        self.assertIs(is_layered(web, [], 0), True)
        self.assertIs(is_layered(web, [(0, 0)], 0), False)
        self.assertIs(is_layered(web, [(0, 0), (0, 0)], 1), True)
        self.assertIs(is_apart(web, [(2, 0), [2, 0], (3, 2)]), True)
        self.assertIs(is_apart(web, [(2, 0), (3, 1)]), False)
        self.assertIs(comes_before(web, (2, 0), (2, 0)), False)
        self.assertIs(comes_before(web, (2, 0), (2, 1)), False)
        self.assertIs(comes_before(web, (3, 0), (2, 0)), False)
        # Ranks may be skipped, and the places between need not be in the lot.
        self.assertIs(is_apart(web, [(0, 0), (3, 0)]), False)
        whole = [(n, x) for n in range(4) for x in range(web[n])]
        self.assertIs(is_layered(web, whole, 3), False)
        self.assertIs(is_layered(web, whole, 4), True)
        self.assertIs(is_layered(web, whole, 99), True)
        alone = Web([[[0]], [[1]]])
        self.assertIs(is_apart(alone, [(0, 0), (1, 0)]), True)
        self.assertIs(is_apart(alone, [(0, 0), (1, 0), (2, 0)]), False)

    def test_side_that_is_not_told(self):
        web = Web([[[1]]], downs=[[[0]]])
        both = [(0, 0), (1, 0)]
        for one, tied in ((web, True), (~web, False)):
            self.assertIs(comes_before(one, both[0], both[1]), tied)
            self.assertIs(is_apart(one, both), not tied)
            self.assertIs(is_layered(one, both, 1), not tied)
            self.assertEqual(len(parting_rows(one)), 1 if tied else 2)
            self.assertEqual(len(greatest_apart(one)), 1 if tied else 2)

    def test_refused(self):
        web = Web.shapes(3)
        for wrong in (None, 5, (1,), "00", (0, 0, 0)):
            self.refused(BadPlace, {"rank": -1, "place": wrong}, comes_before, web, wrong, None)
            self.refused(BadPlace, {"rank": -1, "place": wrong}, comes_before, web, (0, 0), wrong)
        self.refused(BadRank, {"rank": 4}, comes_before, web, (4, 0), (5, 0))
        self.refused(BadRank, {"rank": 5}, comes_before, web, (3, 0), (5, 0))
        self.refused(BadPlace, {"rank": 2, "place": 2}, comes_before, web, (0, 0), (2, 2))
        for call in (is_apart, lambda *args: is_layered(*args, -1)):
            for lot in (None, 5, "ab"):
                self.refused(BadLot, {"at": -1}, call, web, lot)
            for wrong in (None, 0, (0,), (4, 0), (2, 2), (-1, 0), (2, True), ("0", 0)):
                self.refused(BadLot, {"at": 1}, call, web, [(0, 0), wrong, 5])
        for many in (-1, True, None):
            self.refused(BadNumber, {"name": "many"}, is_layered, web, [(0, 0)], many)


class PartingTest(Errors, unittest.TestCase):
    def test_rows_and_lots(self):
        for web in webs():
            for side in SIDES:
                for top in list(range(web.top + 1)) + [None]:
                    last = web.top if top is None else top
                    later = order_of(web, last, side)
                    rows = parting_rows(web, top=top, side=side)
                    self.assertTrue(all_tuples(rows))
                    self.assertEqual(sorted(place for row in rows for place in row), sorted(later))
                    self.assertEqual([row[0] for row in rows], sorted(row[0] for row in rows))
                    for row in rows:
                        self.assertTrue(all(two in later[one] for one, two in zip(row, row[1:])))
                    lot = greatest_apart(web, top=top, side=side)
                    self.assertTrue(all_tuples(lot))
                    self.assertEqual(lot, tuple(sorted(set(lot))))
                    self.assertTrue(all(place in later for place in lot))
                    self.assertIs(is_apart(web, lot, side=side), True)
                    # Each place of a lot apart needs a row of its own, so neither can be better.
                    self.assertEqual(len(lot), len(rows))
                    if len(later) <= 9:
                        self.assertEqual(len(lot), slow_most(web, last, 1, side))

    def test_edges(self):
        self.assertEqual(parting_rows(Web([], sizes=[0])), ())
        self.assertEqual(greatest_apart(Web([], sizes=[0])), ())
        self.assertEqual(parting_rows(Web([], sizes=[2])), (((0, 0),), ((0, 1),)))
        # The rows skip a rank here.
        web = Web([[[1, 0], [1, 0]], [[1, 1], [0, 0]]])
        self.assertEqual(len(parting_rows(web)), 3)
        skipped = Web([[[1], [1]], [[1, 1]]])
        rows = parting_rows(skipped)
        self.assertEqual(len(rows), 2)
        self.assertTrue(any(two[0] > one[0] + 1 for row in rows for one, two in zip(row, row[1:])))
        self.assertEqual(greatest_apart(Web([[[0]]])), ((0, 0), (1, 0)))
        self.assertEqual(greatest_apart(Web([[[1]]], downs=[[[0]]]), side="downs"), ((0, 0), (1, 0)))
        self.assertEqual(len(greatest_apart(Web([[[1]]], downs=[[[0]]]))), 1)

    def test_refused(self):
        kept = Kept(Web.shapes(3), Numbers.steady(1, 1))
        for wrong in (-1, 4, True, "3"):
            self.refused(BadRank, {"rank": wrong}, parting_rows, kept.web, top=wrong)
            self.refused(BadRank, {"rank": wrong}, greatest_apart, kept.web, top=wrong)
            self.refused(BadRank, {"rank": wrong}, parting_ways, kept, top=wrong)

    def test_great_webs(self):
        dice = random.Random(12)
        for share in (0.02, 0.05, 1):
            web = Web([[[int(dice.random() < share) for _ in range(40)] for _ in range(40)] for _ in range(11)])
            rows = parting_rows(web)
            self.assertEqual(sorted(place for row in rows for place in row), places_of(web))
            self.assertEqual(len(greatest_apart(web)), len(rows))
            self.assertIs(is_apart(web, greatest_apart(web)), True)


class LivelyTest(Errors, unittest.TestCase):
    def test_parting_ways(self):
        for kept in lively_kept():
            for side in SIDES:
                for top in list(range(kept.top + 1)) + [None]:
                    last = kept.top if top is None else top
                    ways = parting_ways(kept, top=top, side=side)
                    self.assertTrue(all_tuples(ways))
                    self.assertEqual(len(ways), kept.sizes[last])
                    self.assertEqual([way[-1] for way in ways], [(last, y) for y in range(kept.sizes[last])])
                    self.assertEqual(sorted(place for way in ways for place in way), places_of(kept.web.cut(last)))
                    ups = sided(kept.web, side).ups
                    for way in ways:
                        for (n, x), (m, y) in zip(way, way[1:]):
                            self.assertEqual(m, n + 1)
                            self.assertGreater(ups[n][x][y], 0)
                    self.assertEqual(len(greatest_apart(kept.web, top=top, side=side)), kept.sizes[last])
                    self.assertEqual(len(parting_rows(kept.web, top=top, side=side)), kept.sizes[last])

    def test_not_lively(self):
        kept = Kept(Web.subsets(3), Numbers.falling(3))
        self.refused(NotLively, {"start": 1, "steps": 2}, parting_ways, kept)
        self.refused(NotLively, {"start": 1, "steps": 2}, parting_ways, kept, top=3)
        self.assertEqual(len(parting_ways(kept, top=2)), 3)
        self.refused(NotLively, {"start": 1, "steps": 2}, most_layered, kept, 1, 3)
        self.assertEqual(most_layered(kept, 2, 2), 6)

    def test_most_layered(self):
        for kept in lively_kept():
            for top in range(kept.top + 1):
                for many in range(top + 4):
                    told = most_layered(kept, many, top)
                    self.assertIs(type(told), int)
                    self.assertEqual(told, sum(kept.sizes[n] for n in range(top + 1) if n > top - many))
                    lot = [(n, x) for n in range(max(0, top - many + 1), top + 1) for x in range(kept.sizes[n])]
                    self.assertEqual(len(lot), told)
                    for side in SIDES:
                        self.assertIs(is_layered(kept.web, lot, many, side=side), True)
                        if sum(kept.sizes[:top + 1]) <= 10:
                            self.assertEqual(told, slow_most(kept.web, top, many, side))

    def test_refused(self):
        kept = Kept(Web.subsets(3), Numbers.falling(3))
        for many in (-1, True, None):
            self.refused(BadNumber, {"name": "many"}, most_layered, kept, many, 9)
        for top in (-1, 4, True, None):
            self.refused(BadRank, {"rank": top}, most_layered, kept, 1, top)


class FallingTest(Errors, unittest.TestCase):
    def webs(self):
        """Webs that keep falling(M) at the ranks 0 to M and have no places above, with M."""
        four = Numbers.falling(4)
        more = Kept(Web.subsets(4).empty_rank() + chain(four, 1, 5) + chain(four, 2, 5), four)
        ring = [(kept, m) for kept, m in falling_kept() if not any(kept.sizes[m + 1:])]
        return ring + [(more, 4)]

    def test_lots(self):
        for kept, m in self.webs():
            sizes = sorted(kept.sizes, reverse=True)
            for side in SIDES:
                self.assertEqual(len(greatest_apart(kept.web, side=side)), sizes[0])
                for many in range(4):
                    if sum(kept.sizes) <= 11:
                        self.assertLessEqual(slow_most(kept.web, kept.top, many, side), sum(sizes[:many]))
                for i in range(m // 2 + 1):
                    ways = ways_apart(kept.web, i, list(range(kept.sizes[i])), m - 2 * i, side=side)
                    self.assertEqual(len(ways), kept.sizes[i])

    def test_unbalanced(self):
        # A rank above M has no places here, and the web has no weights.
        ones = [[int(x == y) for y in range(3)] for x in range(3)]
        web = Web(
            [[[1, 1, 1]], ones, [[1], [0], [0]], [[]]],
            downs=[[[3, 0, 0]], [[4, 0, 0], [3, 1, 0], [3, 0, 1]], [[3], [3], [3]], [[]]], sizes=[1, 3, 3, 1, 0],
        )
        kept = Kept(web, Numbers.falling(3))
        for side in SIDES:
            for many, most in enumerate((0, 3, 6, 7, 8, 8)):
                self.assertLessEqual(slow_most(kept.web, 4, many, side), most)
            self.assertEqual(len(ways_apart(web, 1, [0, 1, 2], 1, side=side)), 3)
            self.assertEqual(len(ways_apart(web, 0, [0], 3, side=side)), 1)

    def test_products(self):
        two, one = Numbers.falling(2), Numbers.falling(1)
        first = Kept(Web.subsets(2).empty_rank().empty_rank(), two)
        second = Kept((Web.subsets(1) + chain(one, 0, 1)).empty_rank().empty_rank().empty_rank(), one)
        both = Kept(product(first.web, second.web), Numbers.falling(3))
        self.assertEqual(both.sizes, (2, 6, 6, 2, 0))
        self.assertEqual(both.sizes[:4], both.sizes[3::-1])
        self.assertEqual(len(greatest_apart(both.web)), 6)
        for side in SIDES:
            self.assertEqual(len(ways_apart(both.web, 1, list(range(6)), 1, side=side)), 6)
            self.assertEqual(len(ways_apart(both.web, 0, [0, 1], 3, side=side)), 2)


if __name__ == "__main__":
    unittest.main()
