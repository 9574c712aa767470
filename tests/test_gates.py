import random
import unittest
from itertools import combinations

from upsanddowns.errors import BadLot, BadNumber, BadRank, Unseen
from upsanddowns.gates import gate, is_gate, reached, ways_apart
from upsanddowns.kept import Kept
from upsanddowns.numbers import Numbers
from upsanddowns.sizes import product_by_sizes
from upsanddowns.systems import signed_sum, square_sum
from upsanddowns.webs import Web

from tests.helpers import (
    SIDES, Errors, all_tuples, any_webs, lively_kept, lots_of, passed, places_of, random_web, reflected, sided,
    slow_ways, told_otherwise,
)


def webs():
    return any_webs() + [random_web(seed, [3, 3, 3, 3], 1) for seed in range(60, 72)] + [
        random_web(72, [2, 4, 1, 4, 3], 1), Web([[[1], [1]], [[1, 1]]]),
    ]


def thin_ways(web, rank, lot, steps, side):
    """All ways from the lot by the strands of number 0, as the places passed."""
    table = sided(web, side)
    thin = Web([[[min(1, one) for one in row] for row in rows] for rows in table.ups], sizes=web.sizes)
    return [passed(rank, x, way) for x in lot for way in slow_ways(thin, (rank, x), steps)]


def slow_gate_size(ways):
    """The least number of places that meet all ways, by trying more and more of them."""
    places = sorted({place for way in ways for place in way})
    for many in range(len(places) + 1):
        for chosen in combinations(places, many):
            if all(any(place in chosen for place in way) for way in ways):
                return many
    return None


def spans(web):
    return [(n, k) for n in range(web.top + 1) for k in range(web.top - n + 1)]


class GatesTest(Errors, unittest.TestCase):
    def check(self, web, rank, lot, steps, side):
        """The number of ways apart, which is that of the places of a gate."""
        ways = ways_apart(web, rank, told_otherwise(lot, steps), steps, side=side)
        self.assertTrue(all_tuples(ways))
        starts = [start for start, _ in ways]
        self.assertEqual(starts, sorted(set(starts)))
        self.assertTrue(set(starts) <= set(lot))
        used = []
        for start, way in ways:
            self.assertEqual(len(way), steps)
            at = (rank, start)
            for strand, number in way:
                self.assertTrue(0 <= strand < sided(web, side).ups[at[0]][at[1]][number])
                at = (at[0] + 1, number)
            used += passed(rank, start, way)
        self.assertEqual(len(used), len(set(used)))
        told = gate(web, rank, told_otherwise(lot, rank), steps, side=side)
        self.assertTrue(all_tuples(told))
        self.assertEqual(told, tuple(sorted(set(told))))
        self.assertEqual(len(told), len(ways))
        self.assertIs(is_gate(web, rank, lot, steps, told, side=side), True)
        # One way less is left for each place taken away, so no place of a least gate can be spared.
        for place in told:
            self.assertIs(is_gate(web, rank, lot, steps, [one for one in told if one != place], side=side), False)
        return len(ways)

    def test_against_all_ways(self):
        seen = set()
        for web in webs():
            for n, k in spans(web):
                for side in SIDES:
                    for lot in lots_of(web[n], 3):
                        found = self.check(web, n, lot, k, side)
                        ways = thin_ways(web, n, lot, k, side)
                        if len(ways) < 25:
                            self.assertEqual(found, slow_gate_size(ways))
                            seen.add((found, len(lot)))
        self.assertTrue({(0, 0), (0, 1), (1, 1), (0, 2), (1, 2), (2, 2), (1, 3), (2, 3), (3, 3)} <= seen)

    def test_lot_and_last_rank_are_gates(self):
        for web in webs():
            for n, k in spans(web):
                for side in SIDES:
                    lot = list(range(web[n]))
                    self.assertIs(is_gate(web, n, lot, k, [(n, x) for x in lot], side=side), True)
                    last = [[n + k, y] for y in range(web[n + k])]
                    self.assertIs(is_gate(web, n, lot, k, last, side=side), True)

    def test_is_gate(self):
        dice = random.Random(4)
        seen = {True: 0, False: 0}
        for web in webs():
            places = places_of(web)
            for n, k in spans(web):
                for side in SIDES:
                    for lot in lots_of(web[n], 2):
                        ways = thin_ways(web, n, lot, k, side)
                        for many in range(4):
                            chosen = dice.sample(places, min(many, len(places)))
                            want = all(any(place in chosen for place in way) for way in ways)
                            found = is_gate(web, n, lot, k, told_otherwise(chosen, many), side=side)
                            self.assertIs(found, want)
                            seen[want] += 1
        self.assertGreater(min(seen.values()), 100)

    def test_reached(self):
        for web in webs():
            for n, k in spans(web):
                for side in SIDES:
                    for lot in lots_of(web[n], 3):
                        want = sorted({way[-1][1] for way in thin_ways(web, n, lot, k, side)})
                        found = reached(web, n, told_otherwise(lot, k), k, side=side)
                        self.assertEqual(found, tuple(want))
                        self.assertTrue(all_tuples(found))
        self.assertEqual(reached(Web.shapes(3), 3, [2, 0, 2], 0), (0, 2))

    def test_edges(self):
        for web in webs():
            for n, k in spans(web):
                self.assertEqual(ways_apart(web, n, [], k), ())
                self.assertEqual(gate(web, n, [], k), ())
                self.assertEqual(reached(web, n, [], k), ())
                self.assertIs(is_gate(web, n, [], k, []), True)
        web = Web.shapes(3)
        self.assertEqual(ways_apart(web, 3, [2, 0, 2], 0), ((0, ()), (2, ())))
        self.assertEqual(gate(web, 3, [2, 0], 0), ((3, 0), (3, 2)))
        self.assertIs(is_gate(web, 3, [2], 0, [(3, 2)]), True)
        self.assertIs(is_gate(web, 3, [2], 0, [(3, 1)]), False)
        empty = Web([[[], []], []], sizes=[2, 0, 3])
        self.assertEqual((ways_apart(empty, 0, [0], 2), gate(empty, 0, [0], 2), reached(empty, 0, [0, 1], 2)), ((),) * 3)
        self.assertIs(is_gate(empty, 0, [0], 2, []), True)

    def test_side_that_is_not_told(self):
        web = Web([[[1]]], downs=[[[0]]])
        self.assertEqual(
            (ways_apart(web, 0, [0], 1), len(gate(web, 0, [0], 1)), reached(web, 0, [0], 1), is_gate(web, 0, [0], 1, [])),
            (((0, ((0, 0),)),), 1, (0,), False),
        )
        self.assertEqual(
            (ways_apart(~web, 0, [0], 1), gate(~web, 0, [0], 1), reached(~web, 0, [0], 1), is_gate(~web, 0, [0], 1, [])),
            ((), (), (), True),
        )

    def test_many_strands(self):
        web = Web([[[0, 10 ** 12]], [[0], [10 ** 12]]])
        (start, way), = ways_apart(web, 0, [0], 2)
        self.assertEqual((start, [place for _, place in way]), (0, [1, 0]))
        self.assertTrue(all(0 <= strand < 10 ** 12 for strand, _ in way))

    def test_changed_behind_the_call(self):
        lot, places = [1, 0], [[1, 0]]
        web = Web([[[1], [1]], [[1, 1]]])
        found = (ways_apart(web, 0, lot, 2), gate(web, 0, lot, 2), is_gate(web, 0, lot, 2, places))
        self.assertEqual((lot, places), ([1, 0], [[1, 0]]))
        self.assertEqual(found[1:], (((1, 0),), True))

    def test_refused(self):
        web = Web.shapes(3)
        for call in (ways_apart, gate, reached):
            for rank in (-1, 4, True, None):
                self.refused(BadRank, {"rank": rank}, call, web, rank, None, -1)
            for lot in (None, 5, "0"):
                self.refused(BadLot, {"at": -1}, call, web, 2, lot, -1)
            for wrong in (-1, 2, True, None, (2, 0)):
                self.refused(BadLot, {"at": 1}, call, web, 2, [0, wrong, None], -1)
            for steps in (-1, True, None):
                self.refused(BadNumber, {"name": "steps"}, call, web, 2, [0], steps)
            self.refused(Unseen, {"rank": 4}, call, web, 2, [0], 2)
            self.refused(Unseen, {"rank": 4}, call, web, 2, [0], 2, side="downs")
        self.refused(BadRank, {"rank": 4}, is_gate, web, 4, None, -1, None)
        self.refused(BadLot, {"at": -1}, is_gate, web, 2, None, -1, None)
        self.refused(BadLot, {"at": 0}, is_gate, web, 2, [2], -1, None)
        self.refused(BadNumber, {"name": "steps"}, is_gate, web, 2, [1], -1, None)
        for places in (None, 5, "ab"):
            self.refused(BadLot, {"at": -1}, is_gate, web, 2, [1], 9, places)
        for wrong in (5, None, (2,), (2, 0, 0), (4, 0), (-1, 0), (2, 2), (2, -1), (True, 0), (2, False), "20"):
            self.refused(BadLot, {"at": 1}, is_gate, web, 2, [1], 9, [(3, 2), wrong, None])
        self.refused(Unseen, {"rank": 11}, is_gate, web, 2, [1], 9, [(3, 2)])

    def test_great_webs(self):
        dice = random.Random(8)
        for share in (0.03, 0.06, 0.2):
            tables = [[[int(dice.random() < share) for _ in range(40)] for _ in range(40)] for _ in range(11)]
            self.check(Web(tables), 0, list(range(40)), 11, "ups")
        self.assertEqual(self.check(Web([[[1] * 40] * 40] * 11), 0, list(range(40)), 11, "downs"), 40)


class LivelyTest(Errors, unittest.TestCase):
    def test_ways_from_all_lots(self):
        for kept in lively_kept():
            web = kept.web
            for n, k in spans(web):
                for side in SIDES:
                    lots = lots_of(web[n], 2) + [tuple(range(web[n]))]
                    for lot in lots:
                        self.assertEqual(len(ways_apart(web, n, lot, k, side=side)), len(lot))
                        self.assertEqual(len(gate(web, n, lot, k, side=side)), len(lot))
                        self.assertGreaterEqual(len(reached(web, n, lot, k, side=side)), len(lot))

    def test_goings_on(self):
        for kept in lively_kept():
            if kept.sizes[-1] < 6 and kept.pair_at(kept.top)[1] > 0:
                more = reflected(kept, 1)
                if more.lively:
                    for n in range(more.top + 1):
                        whole = list(range(more.sizes[n]))
                        self.assertEqual(len(ways_apart(more.web, n, whole, more.top - n)), more.sizes[n])

    def test_places_taken_away(self):
        dice = random.Random(9)
        for kept in lively_kept():
            web = kept.web
            for n, k in spans(web):
                ways = ways_apart(web, n, list(range(web[n])), k)
                for many in range(web[n] + 1):
                    gone = dice.sample(places_of(web), min(many, sum(web.sizes)))
                    left = [one for one in ways if not set(passed(n, one[0], one[1])) & set(gone)]
                    self.assertGreaterEqual(len(left), web[n] - many)
                    if many < web[n]:
                        self.assertIs(is_gate(web, n, list(range(web[n])), k, gone), False)

    def test_one_lot_for_both_sides(self):
        seen = 0
        for kept in lively_kept():
            web = kept.web
            for n, k in spans(web):
                if max(web.sizes[n:n + k + 1]) > 7:
                    continue
                whole = list(range(web[n]))
                found = [
                    ends for ends in combinations(range(web[n + k]), web[n])
                    if signed_sum(web, n, whole, k, ends) and signed_sum(web, n, whole, k, ends, side="downs")
                ]
                self.assertGreater(len(found), 0)
                self.assertEqual(square_sum(kept, n, whole, k), product_by_sizes(kept, n, k))
                seen += 1
        self.assertGreater(seen, 80)

    def test_not_lively(self):
        # Where a gain is 0 there may be fewer ways than places.
        kept = Kept(Web.subsets(3), Numbers.falling(3))
        self.assertEqual(len(ways_apart(kept.web, 1, [0, 1, 2], 2)), 1)
        self.assertEqual(len(ways_apart(kept.web, 1, [0, 1, 2], 1)), 3)


if __name__ == "__main__":
    unittest.main()
