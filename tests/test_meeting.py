import random
import unittest
from fractions import Fraction

from upsanddowns.errors import BadLot, BadNumber, BadRank, Unseen
from upsanddowns.gates import gate, reached
from upsanddowns.growth import Growth
from upsanddowns.kept import Kept
from upsanddowns.lotsapart import greatest_apart, is_apart, most_layered
from upsanddowns.makers import chain
from upsanddowns.meeting import above_of, beneath_of, mass, meets, met_always, missing_way
from upsanddowns.numbers import Numbers
from upsanddowns.shares import Share
from upsanddowns.webs import Web

from tests.helpers import (
    Errors, all_tuples, growing_kept, growths_of, lots_of, passed, places_at, places_of, slow_ways, told_otherwise,
    value,
)
from tests.test_lotsapart import longest, order_of


def growths():
    return [growth for growth in growths_of(growing_kept()) if sum(growth.kept.sizes) <= 30]


def ways_of_growth(growth):
    """All ways of growth, each as its places with the chance of all its strands together."""
    kept, (i, z) = growth.kept, growth.place
    whole = kept.numbers.gains(i, kept.top - i)
    found = {}
    for way in slow_ways(kept.web, growth.place, kept.top - i):
        places = tuple(passed(i, z, way))
        if growth.back(places[-1]):
            found[places] = found.get(places, 0) + Fraction(growth.back(places[-1]), whole)
    return found


def chosen_lots(growth, seed):
    """Some lots of places of any ranks."""
    dice = random.Random(seed)
    places = places_of(growth.kept.web)
    return [dice.sample(places, min(many, len(places))) for many in (0, 1, 1, 2, 2, 3, 4, 6, 9)]


class MeetsTest(Errors, unittest.TestCase):
    def test_against_ways(self):
        always = never = 0
        for at, growth in enumerate(growths()):
            ways = ways_of_growth(growth)
            self.assertEqual(sum(ways.values()), 1)
            for lot in chosen_lots(growth, at):
                told = told_otherwise([list(place) for place in lot], at)
                met = {way: len(set(way) & set(lot)) for way in ways}
                found = mass(growth, told)
                self.assertIs(type(found), Share)
                self.assertEqual(value(found), sum(chance * met[way] for way, chance in ways.items()))
                self.assertEqual(value(found), sum(value(growth.share(place)) for place in lot))
                chances = []
                for times in range(growth.kept.top + 4):
                    one = meets(growth, told, times=times)
                    self.assertIs(type(one), Share)
                    self.assertEqual(value(one), sum(chance for way, chance in ways.items() if met[way] >= times))
                    chances.append(value(one))
                self.assertEqual(chances[0], 1)
                self.assertEqual(chances[-1], 0)
                self.assertEqual(sum(chances[1:]), value(found))
                self.assertEqual(meets(growth, told), meets(growth, told, times=1))
                every = min(met.values()) >= 1
                self.assertIs(met_always(growth, told), every)
                self.assertIs(every, chances[1] == 1)
                way = missing_way(growth, told)
                if every:
                    self.assertIsNone(way)
                    always += 1
                    self.assertGreaterEqual(value(found), 1)
                    self.assertIs(value(found) == 1, max(met.values()) <= 1)
                else:
                    never += 1
                    self.assertTrue(all_tuples(way))
                    self.assertEqual(met[way], 0)
        self.assertGreater(always, 40)
        self.assertGreater(never, 100)

    def test_apart(self):
        full = 0
        for at, growth in enumerate(growths()):
            web = growth.kept.web
            later = order_of(web, web.top, "ups")
            lots = chosen_lots(growth, at + 100) + [greatest_apart(web)]
            lots += [places_at(web, n) for n in range(web.top + 1)]
            for lot in lots:
                layers = longest(lot, later)
                self.assertLessEqual(value(mass(growth, lot)), layers)
                if is_apart(web, lot):
                    self.assertEqual(mass(growth, lot), meets(growth, lot))
                    self.assertIs(mass(growth, lot) == 1, met_always(growth, lot))
                    full += mass(growth, lot) == 1
                ways = ways_of_growth(growth)
                met = {len(set(way) & set(lot)) for way in ways}
                for many in range(layers, layers + 2):
                    self.assertIs(value(mass(growth, lot)) == many, met == {many})
        self.assertGreater(full, 60)

    def test_gates(self):
        for growth in growths():
            web, (i, _) = growth.kept.web, growth.place
            whole = list(range(web[i]))
            found = gate(web, i, whole, web.top - i)
            self.assertIs(met_always(growth, found), True)
            self.assertTrue(mass(growth, found).at_least(1))
            self.assertEqual(mass(growth, [growth.place]), 1)
            self.assertEqual(mass(growth, places_at(web, web.top)), 1)

    def test_last_ranks(self):
        seen = 0
        for growth in growths():
            web, i = growth.kept.web, growth.origin_rank
            for k in range(web.top - i + 2):
                lot = [place for n in range(web.top - k + 1, web.top + 1) for place in places_at(web, n)]
                self.assertEqual(mass(growth, lot), k)
                self.assertEqual(meets(growth, lot, times=k), 1)
                if growth.kept.lively and i == 0:
                    self.assertEqual(len(lot), most_layered(growth.kept, k, web.top))
                    seen += 1
        self.assertGreater(seen, 40)

    def test_edges(self):
        growth = Growth(Kept(Web.shapes(3), Numbers.steady(1, 1)), (0, 0))
        self.assertEqual((str(mass(growth, [])), str(meets(growth, [])), str(meets(growth, [], times=0))), ("0/1", "0/1", "1/1"))
        self.assertIs(met_always(growth, []), False)
        self.assertEqual(missing_way(growth, [])[0], (0, 0))
        self.assertIsNone(missing_way(growth, [(0, 0)]))
        # A place told twice counts once.
        self.assertEqual(str(mass(growth, [(3, 1), [3, 1]])), "2/3")
        alone = Growth(Kept(Web([], sizes=[2]), Numbers([])), (0, 1))
        self.assertEqual(missing_way(alone, [(0, 0)]), ((0, 1),))
        self.assertEqual((meets(alone, [(0, 1)]), meets(alone, [(0, 0)])), (1, 0))
        # Places that growth never meets.
        late = Growth(Kept(Web.shapes(2) + chain(Numbers.steady(1, 1), 1, 2), Numbers.steady(1, 1)), (1, 1))
        self.assertEqual(mass(late, [(0, 0), (1, 0), (2, 0), (2, 1)]), 0)
        self.assertIs(met_always(late, [(0, 0), (1, 0), (2, 0)]), False)
        self.assertIs(met_always(late, [(2, 2)]), True)

    def test_refused(self):
        growth = Growth(Kept(Web.shapes(3), Numbers.steady(1, 1)), (0, 0))
        for call in (mass, lambda *args: meets(*args, times=-1), met_always, missing_way):
            for lot in (None, 5, "ab", {}):
                self.refused(BadLot, {"at": -1}, call, growth, lot)
            for wrong in (None, 0, (0,), (0, 0, 0), (4, 0), (2, 2), (-1, 0), (2, True), ("0", 0)):
                self.refused(BadLot, {"at": 1}, call, growth, [(0, 0), wrong, 5])
        for times in (-1, True, None, "1"):
            self.refused(BadNumber, {"name": "times"}, meets, growth, [(0, 0)], times=times)

    def test_great_webs(self):
        ones = [[1] * 40] * 40
        web = Web([[[1] * 40]] + [ones] * 10, downs=[[[1] * 40]] + [ones] * 10)
        kept = Kept(web, Numbers([(1, 40)] + [(40, 0)] + [(1, 0)] * 9))
        growth = Growth(kept, (0, 0))
        lot = [(n, x) for n in range(12) for x in range(min(20, web[n]))]
        self.assertEqual(value(mass(growth, lot)), 1 + Fraction(11, 2))
        self.assertEqual(value(meets(growth, lot, times=12)), Fraction(1, 2 ** 11))


class NextTest(Errors, unittest.TestCase):
    def test_above_and_beneath(self):
        more = equal = 0
        for growth in growths():
            kept, i = growth.kept, growth.origin_rank
            web = kept.web
            for n in range(i, web.top + 1):
                for lot in lots_of(web[n], 2) + [tuple(range(web[n]))]:
                    told = told_otherwise(lot, n)
                    weight = mass(growth, [(n, x) for x in lot])
                    if n < web.top:
                        found = above_of(growth, n, told)
                        self.assertTrue(all_tuples(found))
                        self.assertEqual(found, tuple(
                            y for y in range(web[n + 1])
                            if growth.share((n + 1, y)) != 0 and any(web.ups[n][x][y] for x in lot)
                        ))
                        over = mass(growth, [(n + 1, y) for y in found])
                        self.assertTrue(over.at_least(weight))
                        full = all(
                            x in lot for x in range(web[n])
                            if growth.share((n, x)) != 0 and any(web.ups[n][x][y] for y in found)
                        )
                        self.assertIs(over == weight, full)
                        equal += full
                        more += not full
                        if kept.lively:
                            self.assertGreaterEqual(len(reached(web, n, lot, 1)), len(lot))
                    if n > i:
                        found = beneath_of(growth, n, told)
                        self.assertTrue(all_tuples(found))
                        self.assertEqual(found, tuple(
                            x for x in range(web[n - 1])
                            if growth.share((n - 1, x)) != 0 and any(web.downs[n - 1][x][y] for y in lot)
                        ))
                        under = mass(growth, [(n - 1, x) for x in found])
                        self.assertTrue(under.at_least(weight))
                        full = all(
                            y in lot for y in range(web[n])
                            if growth.share((n, y)) != 0 and any(web.downs[n - 1][x][y] for x in found)
                        )
                        self.assertIs(under == weight, full)
        self.assertGreater(equal, 100)
        self.assertGreater(more, 100)

    def test_refused(self):
        kept = Kept(Web.shapes(2) + chain(Numbers.steady(1, 1), 1, 2), Numbers.steady(1, 1))
        growth = Growth(kept, (1, 1))
        for rank in (-1, 3, True, None, 0):
            self.refused(BadRank, {"rank": rank}, above_of, growth, rank, None)
            self.refused(BadRank, {"rank": rank}, beneath_of, growth, rank, None)
        self.refused(BadRank, {"rank": 1}, beneath_of, growth, 1, None)
        for call, n in ((above_of, 2), (beneath_of, 2)):
            for lot in (None, 5, "0"):
                self.refused(BadLot, {"at": -1}, call, growth, n, lot)
            for wrong in (-1, 3, True, None, (2, 0)):
                self.refused(BadLot, {"at": 1}, call, growth, n, [0, wrong])
        self.refused(Unseen, {"rank": 3}, above_of, growth, 2, [0])
        self.assertEqual((above_of(growth, 1, [0, 1]), beneath_of(growth, 2, [2, 0, 1])), ((2,), (1,)))
        self.assertEqual((above_of(growth, 1, []), beneath_of(growth, 2, [])), ((), ()))


if __name__ == "__main__":
    unittest.main()
