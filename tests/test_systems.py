import unittest
from itertools import combinations, product
from math import isqrt

from upsanddowns.errors import BadLot, BadNumber, BadRank, NotEven, NotLively, TooMany, Unseen
from upsanddowns.grids import determinant
from upsanddowns.kept import Kept
from upsanddowns.makers import chain
from upsanddowns.numbers import Numbers
from upsanddowns.sizes import product_by_sizes
from upsanddowns.systems import odd_systems, sign_of, signed_sum, square_sum, systems_of, ways_table
from upsanddowns.webs import Web

from tests.helpers import (
    SIDES, Errors, all_kept, all_tuples, any_webs, even_kept, lots_of, mult, passed, random_web, reflected, sided,
    slow_ways, table_of, told_otherwise, unit, with_diagonal,
)


def slow_systems(web, rank, lot, steps, side="ups"):
    """All systems, by trying all ways of all places."""
    found = []
    for ways in product(*[slow_ways(web, (rank, x), steps, side) for x in lot]):
        places = [place for x, way in zip(lot, ways) for place in passed(rank, x, way)]
        if len(places) == len(set(places)):
            found.append(ways)
    return sorted(found)


def ends_of(system, lot):
    return tuple(way[-1][1] if way else x for x, way in zip(lot, system))


def slow_sign(ends):
    return (-1) ** sum(one > two for one, two in combinations(ends, 2))


def small_webs():
    """Webs with few strands, even and unlike ones, with empty ranks among them."""
    return any_webs()[:5] + [
        random_web(11, [2, 3, 3], 2), random_web(12, [3, 3, 2], 1), random_web(13, [2, 2, 2, 2], 2),
        random_web(14, [3, 4, 4], 1), Web.shapes(4), Web.subsets(3), Web([[[2, 0], [1, 1]], [[0, 1], [2, 0]]]),
        Web.tree([2, 2]), Web([[[1], [1]], [[1, 1]]]),
    ]


def spans(web):
    return [(n, k) for n in range(web.top + 1) for k in range(web.top - n + 1)]


class TableTest(Errors, unittest.TestCase):
    def test_against_words(self):
        for web in any_webs() + [random_web(21, [3, 0, 2, 2])]:
            for n, k in spans(web):
                for side in SIDES:
                    found = ways_table(web, n, k, side=side)
                    self.assertTrue(all_tuples(found))
                    self.assertEqual(found, table_of(sided(web, side), n, "u" * k))
                self.assertEqual(ways_table(web, n, k), ways_table(web, n, k, side="ups"))

    def test_edges(self):
        web = Web([[[], []], []], sizes=[2, 0, 3])
        self.assertEqual(ways_table(web, 0, 2), ((0, 0, 0), (0, 0, 0)))
        self.assertEqual(ways_table(web, 0, 1), ((), ()))
        self.assertEqual(ways_table(web, 1, 1), ())
        self.assertEqual(ways_table(web, 2, 0), unit(3))

    def test_refused(self):
        web = Web.shapes(2)
        for rank in (-1, 3, True, None, "0"):
            self.refused(BadRank, {"rank": rank}, ways_table, web, rank, -1)
        for steps in (-1, True, None, "1"):
            self.refused(BadNumber, {"name": "steps"}, ways_table, web, 0, steps)
        self.refused(Unseen, {"rank": 3}, ways_table, web, 2, 1)
        self.refused(Unseen, {"rank": 9}, ways_table, web, 1, 8, side="downs")


class ListTest(Errors, unittest.TestCase):
    def test_against_all_ways(self):
        many = none = 0
        for web in small_webs():
            for n, k in spans(web):
                for side in SIDES:
                    for lot in lots_of(web[n], 3):
                        want = slow_systems(web, n, lot, k, side)
                        if len(want) > 500:
                            continue
                        found = list(systems_of(web, n, lot, k, side=side))
                        self.assertEqual(found, want)
                        self.assertTrue(all_tuples(tuple(found)))
                        self.assertEqual(list(systems_of(web, n, told_otherwise(lot, n), k, side=side)), want)
                        many += len(found)
                        none += not found
        self.assertGreater(many, 1000)
        self.assertGreater(none, 100)

    def test_edges(self):
        for web in small_webs():
            for n, k in spans(web):
                self.assertEqual(list(systems_of(web, n, [], k)), [()])
                self.assertEqual(list(systems_of(web, n, list(range(web[n])), 0)), [((),) * web[n]])
        empty = Web([[[], []], []], sizes=[2, 0, 3])
        self.assertEqual(list(systems_of(empty, 0, [1], 2)), [])
        self.assertEqual(list(systems_of(empty, 0, [], 2)), [()])

    def test_strands_are_compared_first(self):
        web = Web([[[1, 2], [2, 1]]])
        found = list(systems_of(web, 0, [0, 1], 1))
        self.assertEqual(found, [
            (((0, 0),), ((0, 1),)), (((0, 1),), ((0, 0),)), (((0, 1),), ((1, 0),)),
            (((1, 1),), ((0, 0),)), (((1, 1),), ((1, 0),)),
        ])

    def test_limits(self):
        web = Web([[[1, 2], [2, 1]]])
        self.assertEqual(len(list(systems_of(web, 0, [0, 1], 1, limit=5))), 5)
        for limit in (0, 1, 4):
            told = systems_of(web, 0, [0, 1], 1, limit=limit)
            self.refused(TooMany, {"limit": limit}, lambda: next(told))
        # 500 is the limit that is not told.
        self.assertEqual(len(list(systems_of(Web([[[500]]]), 0, [0], 1))), 500)
        told = systems_of(Web([[[501]]]), 0, [0], 1)
        self.refused(TooMany, {"limit": 500}, lambda: next(told))
        told = systems_of(web, 0, [], 1, limit=0)
        self.refused(TooMany, {"limit": 0}, lambda: next(told))
        self.assertEqual(list(systems_of(Web([[[0]]]), 0, [0], 1, limit=0)), [])

    def test_refused(self):
        web = Web.shapes(3)

        def call(*args, **more):
            next(systems_of(*args, **more))

        for rank in (-1, 4, True, None):
            self.refused(BadRank, {"rank": rank}, call, web, rank, 5, -1, limit=-1)
        for lot in (None, 5, "0", {}):
            self.refused(BadLot, {"at": -1}, call, web, 2, lot, -1, limit=-1)
        for wrong in (-1, 2, True, None, (2, 0), "0"):
            self.refused(BadLot, {"at": 1}, call, web, 2, [1, wrong, -5], -1, limit=-1)
        for steps in (-1, True, None):
            self.refused(BadNumber, {"name": "steps"}, call, web, 2, [0], steps, limit=-1)
        for limit in (-1, True, None, "5"):
            self.refused(BadNumber, {"name": "limit"}, call, web, 2, [0], 9, limit=limit)
        self.refused(Unseen, {"rank": 11}, call, web, 2, [0], 9, limit=0)
        self.refused(TooMany, {"limit": 0}, call, web, 2, [0], 1, limit=0)
        # Nothing is looked at ahead of the first item.
        systems_of(None, None, None, None, limit=None)

    def test_changed_behind_the_call(self):
        lot = [0, 1]
        told = systems_of(Web.shapes(3), 2, lot, 1)
        first = next(told)
        lot.append(7)
        self.assertEqual([first] + list(told), slow_systems(Web.shapes(3), 2, (0, 1), 1))

    def test_great_webs(self):
        ones = [[1] * 40] * 40
        lot = list(range(12))
        narrow = Web([ones] * 10 + [[[1] * 11] * 40])
        self.assertEqual(list(systems_of(narrow, 0, lot, 11)), [])
        rising = Web([[[int(y >= x) for y in range(40)] for x in range(40)]] * 11)
        self.assertEqual(
            list(systems_of(rising, 0, list(range(28, 40)), 11)), [tuple(((0, x),) * 11 for x in range(28, 40))]
        )
        crowd = systems_of(Web([ones] * 11), 0, lot, 11)
        self.refused(TooMany, {"limit": 500}, lambda: next(crowd))
        strands = systems_of(Web([[[10 ** 12] * 40] * 40] * 11), 0, lot, 11, limit=10 ** 300)
        self.refused(TooMany, {"limit": 10 ** 300}, lambda: next(strands))


class SignsTest(Errors, unittest.TestCase):
    def test_sums(self):
        seen = 0
        for web in small_webs():
            for n, k in spans(web):
                for side in SIDES:
                    for lot in lots_of(web[n], 3):
                        want = {}
                        for system in slow_systems(web, n, lot, k, side):
                            ends = ends_of(system, lot)
                            sign = sign_of(system)
                            self.assertEqual(sign, 1 if k == 0 else slow_sign(ends))
                            want[tuple(sorted(ends))] = want.get(tuple(sorted(ends)), 0) + sign
                        table = ways_table(web, n, k, side=side)
                        for ends in lots_of(web[n + k], 3):
                            told = signed_sum(web, n, told_otherwise(lot, k), k, told_otherwise(ends, n), side=side)
                            self.assertIs(type(told), int)
                            self.assertEqual(told, want.get(ends, 0))
                            if len(ends) == len(lot):
                                seen += told != 0
                                self.assertEqual(told, determinant([[table[x][y] for y in ends] for x in lot]))
        self.assertGreater(seen, 200)

    def test_edges(self):
        self.assertEqual(sign_of(()), 1)
        self.assertEqual(sign_of(((), ())), 1)
        self.assertEqual(sign_of((((0, 3), (0, 1)), ((0, 2), (0, 0)))), -1)
        self.assertEqual(sign_of((((0, 2),), ((0, 0),), ((0, 1),))), 1)
        web = Web.shapes(3)
        self.assertEqual(signed_sum(web, 2, [], 1, []), 1)
        self.assertEqual(signed_sum(web, 2, [0, 1], 0, [1, 0]), 1)
        self.assertEqual(signed_sum(web, 2, [0], 0, [1]), 0)
        self.assertEqual(signed_sum(web, 2, [0], 1, [0, 1]), 0)
        # A place told twice counts once.
        self.assertEqual(signed_sum(web, 2, [0, 0], 1, [1]), 1)
        self.assertEqual(signed_sum(web, 2, [0, 0], 1, [1, 1, 1]), 1)

    def test_side_that_is_not_told(self):
        web = Web([[[3]]], downs=[[[2]]])
        self.assertEqual((signed_sum(web, 0, [0], 1, [0]), ways_table(web, 0, 1)), (3, ((3,),)))
        self.assertEqual(len(list(systems_of(web, 0, [0], 1))), 3)
        self.assertEqual(len(list(systems_of(web, 0, [0], 1, side="downs"))), 2)

    def test_refused(self):
        web = Web.shapes(3)
        self.refused(BadRank, {"rank": 4}, signed_sum, web, 4, None, -1, None)
        self.refused(BadLot, {"at": -1}, signed_sum, web, 2, None, -1, None)
        self.refused(BadLot, {"at": 0}, signed_sum, web, 2, [2], -1, None)
        self.refused(BadNumber, {"name": "steps"}, signed_sum, web, 2, [1], -1, None)
        # Here Unseen comes ahead of the errors of ends.
        self.refused(Unseen, {"rank": 4}, signed_sum, web, 2, [1], 2, None)
        self.refused(BadLot, {"at": -1}, signed_sum, web, 2, [1], 1, None)
        self.refused(BadLot, {"at": 1}, signed_sum, web, 2, [1], 1, [2, 3])
        self.refused(BadLot, {"at": 0}, signed_sum, web, 2, [1], 1, [True])


class SquaresTest(Errors, unittest.TestCase):
    def test_sums_of_squares(self):
        seen = 0
        for kept in all_kept():
            web = kept.web
            for n, k in spans(web):
                if max(web.sizes[n:n + k + 1]) > 7:
                    continue
                for lot in lots_of(web[n], 2) + ([tuple(range(web[n]))] if web[n] > 2 else []):
                    told = square_sum(kept, n, told_otherwise(lot, n), k)
                    self.assertIs(type(told), int)
                    want = [
                        (signed_sum(web, n, lot, k, ends), signed_sum(web, n, lot, k, ends, side="downs"))
                        for ends in combinations(range(web[n + k]), len(lot))
                    ]
                    self.assertEqual(told, sum(one * two for one, two in want))
                    if web.is_even:
                        self.assertTrue(all(one == two for one, two in want))
                    seen += told != 0
        self.assertGreater(seen, 500)

    def test_table(self):
        for kept in all_kept():
            for n in range(kept.top + 1):
                for k in range(4):
                    low = kept.below(n)
                    table = unit(kept.sizes[n])
                    for steps in range(1, k + 1):
                        table = mult(
                            table, with_diagonal(low, kept.numbers.swaps(n, steps), kept.numbers.gain(n, steps))
                        )
                    for lot in lots_of(kept.sizes[n], 2):
                        want = determinant([[table[x][y] for y in lot] for x in lot])
                        self.assertEqual(square_sum(kept, n, lot, k), want)
                        if n < kept.top and kept.pair_at(n)[0] == 1:
                            high = with_diagonal(kept.above(n), 1, -kept.pair_at(n)[1])
                            self.assertEqual(high, low)

    def test_goings_on(self):
        seen = 0
        for kept in all_kept():
            if kept.pair_at(kept.top)[1] < 0 or kept.pair_at(kept.top + 1)[1] < 0 or max(kept.sizes) > 3:
                continue
            more = reflected(kept, 2)
            if max(more.sizes) > 9:
                continue
            for n in range(kept.top + 1):
                for k in range(more.top - n + 1):
                    for lot in lots_of(kept.sizes[n], 3):
                        told = square_sum(kept, n, lot, k)
                        self.assertEqual(told, square_sum(more, n, lot, k))
                        self.assertEqual(told, square_sum(kept.cut(n), n, lot, k))
                        want = sum(
                            signed_sum(more.web, n, lot, k, ends) * signed_sum(more.web, n, lot, k, ends, side="downs")
                            for ends in combinations(range(more.sizes[n + k]), len(lot))
                        )
                        self.assertEqual(told, want)
                        if told != 0:
                            seen += 1
                            for side in SIDES:
                                self.assertGreater(
                                    len(list(systems_of(more.web, n, lot, k, side=side, limit=10 ** 6))), 0
                                )
        self.assertGreater(seen, 100)

    def test_by_sizes(self):
        seen = 0
        for kept in all_kept():
            for n in range(kept.top + 1):
                if any(one > two for one, two in zip(kept.sizes, kept.sizes[1:n + 1])):
                    continue
                for k in range(4):
                    seen += 1
                    told = square_sum(kept, n, list(range(kept.sizes[n])), k)
                    self.assertEqual(told, product_by_sizes(kept, n, k))
        self.assertGreater(seen, 300)

    def test_squares_of_integers(self):
        seen = 0
        for kept in even_kept():
            for n, k in spans(kept.web):
                if kept.numbers.lively_to(n + k) and kept.sizes[n] == kept.sizes[n + k]:
                    told = square_sum(kept, n, list(range(kept.sizes[n])), k)
                    self.assertEqual(isqrt(told) ** 2, told)
                    seen += k > 0
        self.assertGreater(seen, 3)

    def test_refused(self):
        kept = Kept(Web.shapes(3), Numbers.steady(1, 1))
        self.refused(BadRank, {"rank": -1}, square_sum, kept, -1, None, -1)
        self.refused(BadLot, {"at": -1}, square_sum, kept, 2, None, -1)
        self.refused(BadLot, {"at": 1}, square_sum, kept, 2, [0, 2], -1)
        for steps in (-1, True, None):
            self.refused(BadNumber, {"name": "steps"}, square_sum, kept, 2, [0], steps)
        self.assertEqual(square_sum(kept, 3, [0, 1], 12), square_sum(kept.cut(3), 3, [1, 0, 1], 12))
        self.assertEqual(square_sum(kept, 3, [], 5), 1)


class OddTest(Errors, unittest.TestCase):
    def test_against_lists(self):
        odd = even = 0
        for kept in even_kept():
            for n, k in spans(kept.web):
                if any(one > two for one, two in zip(kept.sizes, kept.sizes[1:n + 1])):
                    continue
                lot = list(range(kept.sizes[n]))
                told = odd_systems(kept, n, k)
                self.assertIs(type(told), bool)
                self.assertIs(square_sum(kept, n, lot, k) % 2 == 1, told)
                if kept.sizes[n] <= 5:
                    many = list(systems_of(kept.web, n, lot, k, limit=40000))
                    self.assertIs(len(many) % 2 == 1, told)
                    odd += told
                    even += not told
        self.assertGreater(odd, 20)
        self.assertGreater(even, 10)

    def test_any_lot(self):
        seen = set()
        for kept in even_kept():
            for n, k in spans(kept.web):
                if max(kept.sizes[n:n + k + 1]) > 5:
                    continue
                for lot in lots_of(kept.sizes[n], 3):
                    many = len(list(systems_of(kept.web, n, lot, k, limit=40000)))
                    told = square_sum(kept, n, lot, k) % 2
                    self.assertEqual(many % 2, told)
                    seen.add(told)
        self.assertEqual(seen, {0, 1})

    def test_above_the_top(self):
        kept = Kept(Web.shapes(2), Numbers.steady(1, 1))
        for k in range(6):
            for n in range(3):
                self.assertIs(odd_systems(kept, n, k), odd_systems(reflected(kept, 4), n, k))
        self.assertIs(odd_systems(kept, 0, 1), True)
        self.assertIs(odd_systems(kept, 0, 2), False)
        self.assertIs(odd_systems(Kept(Web([], sizes=[0]), Numbers.steady(1, 2)), 0, 3), True)
        self.assertIs(odd_systems(Kept(Web([], sizes=[2]), Numbers.steady(1, 2)), 0, 0), True)
        # A gain below 0 is odd or even, too.
        self.assertIs(odd_systems(Kept(Web([], sizes=[2]), Numbers.steady(1, -3)), 0, 1), True)
        self.assertIs(odd_systems(Kept(Web([], sizes=[2]), Numbers.steady(1, -3)), 0, 2), False)

    def test_refused(self):
        falling = Kept(Web.subsets(3), Numbers.falling(3))
        self.refused(BadRank, {"rank": 4}, odd_systems, falling, 4, -1)
        for steps in (-1, True, None):
            self.refused(BadNumber, {"name": "steps"}, odd_systems, falling, 3, steps)
        self.refused(NotLively, {"start": 1, "steps": 2}, odd_systems, falling, 3, 1)
        self.assertIs(odd_systems(falling, 2, 1), False)
        last = Kept(Web([[[1]], [[1]]], downs=[[[1]], [[2]]]), Numbers([(1, 1), (1, 1)]))
        self.refused(NotEven, {"rank": 1}, odd_systems, last, 0, 0)
        numbers = Numbers([(1, 2), (1, 0), (0, 0)])
        both = Kept(chain(numbers, 0, 3), numbers)
        self.assertEqual(both.sizes, (1, 1, 1, 0))
        self.refused(NotEven, {"rank": 0}, odd_systems, both, 3, 1)


if __name__ == "__main__":
    unittest.main()
