import random
import unittest
from itertools import product

from upsanddowns.errors import BadParting, BadPlace, BadRank, BadSize
from upsanddowns.partings import Parting, coarsest, fits, is_fair, unfair_pair
from upsanddowns.webs import Web

from tests.helpers import Errors, all_kept, all_tuples, any_webs, random_split, random_web, slow_unfair, splits_of


def all_partings(web):
    return [Parting(rows) for rows in product(*[splits_of(size) for size in web.sizes])]


def slow_within(one, two):
    return all(
        any(set(lot) <= set(other) for other in others) for lots, others in zip(one.rows, two.rows) for lot in lots
    )


def chained(one, two, size):
    """The places that chains of neighbours in one lot lead to, place by place."""
    lots = [set(lot) for lot in one + two]
    found = []
    for place in range(size):
        kin = {place}
        while True:
            more = kin.union(*[lot for lot in lots if lot & kin])
            if more == kin:
                break
            kin = more
        found.append(tuple(sorted(kin)))
    return tuple(sorted(set(found)))


def small_webs():
    return [web for web in any_webs() if sum(web.sizes) <= 8] + [
        random_web(seed, [1, 3, 2], 1) for seed in range(100, 106)
    ] + [Web([[[1, 1, 1]]]), Web([[[1, 1, 1]], [[1, 1], [1, 1], [1, 1]]]), Web([[[1, 1], [1, 1]]]), Web([[[1, 1, 2]]])]


class MadeTest(Errors, unittest.TestCase):
    def test_orders(self):
        told = [[[2, 0], [1]], [], ([3], (1, 2), [0]), [[0]]]
        parting = Parting(told)
        self.assertEqual(parting.rows, (((0, 2), (1,)), (), ((0,), (1, 2), (3,)), ((0,),)))
        self.assertTrue(all_tuples(parting.rows))
        self.assertEqual(len(parting), 4)
        told[0][0].append(9)
        told.pop()
        self.assertEqual(parting.rows, (((0, 2), (1,)), (), ((0,), (1, 2), (3,)), ((0,),)))
        self.assertEqual([parting.lots(n) for n in range(4)], list(parting.rows))
        self.assertEqual(parting.lot_sizes(), (2, 0, 3, 1))
        for n, lots in enumerate(parting.rows):
            for number, lot in enumerate(lots):
                for place in lot:
                    self.assertEqual(parting.lot_of(n, place), number)
                    self.assertIs(type(parting.lot_of(n, place)), int)
        self.assertEqual((len(Parting([])), Parting([]).rows, Parting(()).lot_sizes()), (0, (), ()))

    def test_any_order(self):
        dice = random.Random(1)
        for size in range(7):
            lots = random_split(dice, size) if size else []
            want = tuple(sorted(tuple(sorted(lot)) for lot in lots))
            self.assertEqual(Parting([lots]).rows, (want,))
            self.assertEqual([lot[0] for lot in want], sorted(lot[0] for lot in want))

    def test_equality(self):
        self.assertTrue(Parting([[[0, 1]]]) == Parting((([1, 0],),)))
        self.assertFalse(Parting([[[0, 1]]]) == Parting([[[0], [1]]]))
        self.assertFalse(Parting([[[0]]]) == Parting([[[0]], []]))
        for other in (None, 5, (((0, 1),),), [[[0, 1]]], "x"):
            self.assertIs(Parting([[[0, 1]]]).__eq__(other), False)

    def test_single_and_flat(self):
        self.assertEqual(Parting.single([2, 0, 3]).rows, (((0,), (1,)), (), ((0,), (1,), (2,))))
        self.assertEqual(Parting.flat((2, 0, 3)).rows, (((0, 1),), (), ((0, 1, 2),)))
        self.assertEqual((Parting.single([]).rows, Parting.flat([]).rows), ((), ()))
        for call in (Parting.single, Parting.flat):
            self.assertIs(type(call([1])), Parting)
            for wrong in (None, 5, "12", {}):
                self.refused(BadSize, {"rank": -1}, call, wrong)
            for wrong in (-1, True, None, "1", (1,)):
                self.refused(BadSize, {"rank": 1}, call, [2, wrong, None])

    def test_refused(self):
        for rows in (None, 5, "", {}):
            self.refused(BadParting, {"rank": -1}, Parting, rows)
        for row in (None, 5, "0", {}, [0], [[0], 1], ["0"], [[0], []], [[]], [[1]], [[0], [2]], [[0, 0]], [[0], [0]],
                    [[0, 1], [1]], [[-1, 0]], [[True, 0]], [[False]], [[0, None]], [[0], [1.0]], [["0"]], [[(0,)]]):
            self.refused(BadParting, {"rank": 1}, Parting, [[[0]], row, None])
        parting = Parting([[[0, 1]], []])
        for rank in (-1, 2, True, None):
            self.refused(BadRank, {"rank": rank}, parting.lots, rank)
            self.refused(BadRank, {"rank": rank}, parting.lot_of, rank, 9)
        for place in (-1, 2, True, None):
            self.refused(BadPlace, {"rank": 0, "place": place}, parting.lot_of, 0, place)
        self.refused(BadPlace, {"rank": 1, "place": 0}, parting.lot_of, 1, 0)


class OrderTest(Errors, unittest.TestCase):
    def test_within_and_joined(self):
        dice = random.Random(2)
        seen = {True: 0, False: 0}
        for _ in range(300):
            sizes = [dice.randint(0, 5) for _ in range(3)]
            one, two = [Parting([random_split(dice, size) if size else [] for size in sizes]) for _ in range(2)]
            both = one.joined(two)
            want = tuple(chained(one.rows[n], two.rows[n], sizes[n]) for n in range(3))
            self.assertEqual(both.rows, want)
            self.assertEqual(both, two.joined(one))
            for a, b in ((one, two), (one, both), (two, both), (both, one), (one, one)):
                self.assertIs(a.within(b), slow_within(a, b))
                seen[a.within(b)] += 1
            self.assertTrue(one.within(both) and two.within(both))
            self.assertTrue(Parting.single(sizes).within(one) and one.within(Parting.flat(sizes)))
            self.assertEqual(one.joined(Parting.single(sizes)), one)
            self.assertEqual(one.joined(one), one)
        self.assertGreater(min(seen.values()), 100)
        # A chain of two kinds of lots.
        one, two = Parting([[[0, 1], [2, 3], [4]]]), Parting([[[0], [1, 2], [3, 4]]])
        self.assertEqual(one.joined(two), Parting.flat([5]))

    def test_refused(self):
        one = Parting([[[0]], [[0, 1]], [[0]]])
        for call in (one.within, one.joined):
            self.refused(BadParting, {"rank": 2}, call, Parting([[[0]], [[0, 1]]]))
            self.refused(BadParting, {"rank": 3}, call, Parting([[[0]], [[0, 1]], [[0]], []]))
            self.refused(BadParting, {"rank": 1}, call, Parting([[[0]], [[0, 1, 2]], [[0, 1]]]))
            self.refused(BadParting, {"rank": 0}, call, Parting([]))


class FairTest(Errors, unittest.TestCase):
    def test_fair_partings(self):
        seen = {None: 0, "ups": 0, "downs": 0}
        for web in small_webs():
            for parting in all_partings(web):
                want = slow_unfair(web, parting.rows)
                found = unfair_pair(web, parting)
                self.assertEqual(found, want)
                self.assertIs(is_fair(web, parting), want is None)
                self.assertIs(fits(web, parting), parting)
                seen[want if want is None else want[3]] += 1
        self.assertGreater(min(seen.values()), 30)

    def test_coarsest(self):
        merged = 0
        for web in small_webs():
            every = all_partings(web)
            fair = [one for one in every if is_fair(web, one)]
            self.assertIn(Parting.single(web.sizes), fair)
            for parting in every:
                found = coarsest(web, parting)
                self.assertIs(type(found), Parting)
                self.assertIn(found, fair)
                self.assertTrue(found.within(parting))
                for one in fair:
                    if one.within(parting):
                        self.assertTrue(one.within(found))
                merged += found not in (parting, Parting.single(web.sizes))
            for one in fair:
                for two in fair:
                    self.assertIs(is_fair(web, one.joined(two)), True)
        self.assertGreater(merged, 20)

    def test_greater_webs(self):
        dice = random.Random(3)
        for kept in all_kept():
            web = kept.web
            for _ in range(4):
                told = Parting([random_split(dice, size) if size else [] for size in web.sizes])
                found = coarsest(web, told)
                self.assertIsNone(slow_unfair(web, found.rows))
                self.assertTrue(found.within(told))
                self.assertEqual(coarsest(web, found), found)
                self.assertEqual(unfair_pair(web, told), slow_unfair(web, told.rows))

    def test_edges(self):
        web = Web([[[1, 1]], [[1], [2]]], downs=[[[1, 2]], [[1], [1]]])
        self.assertEqual(unfair_pair(web, Parting.flat([1, 2, 1])), (1, 0, 1, "ups"))
        less = Web([[[1, 1]], [[1], [1]]], downs=[[[1, 2]], [[1], [1]]])
        self.assertEqual(unfair_pair(less, Parting.flat([1, 2, 1])), (1, 0, 1, "downs"))
        self.assertIsNone(unfair_pair(web, Parting.single([1, 2, 1])))
        # Pair by pair: a pair whose downs differ comes ahead of a later pair whose ups differ.
        wide = Web([[[1, 1, 1]], [[1], [1], [2]]], downs=[[[1, 2, 1]], [[1], [1], [1]]])
        self.assertEqual(unfair_pair(wide, Parting.flat([1, 3, 1])), (1, 0, 1, "downs"))
        self.assertIs(is_fair(Web([], sizes=[0]), Parting([[]])), True)
        self.assertIs(is_fair(Web([], sizes=[3]), Parting.flat([3])), True)

    def test_refused(self):
        web = Web.shapes(2)
        for call in (fits, unfair_pair, is_fair, coarsest):
            self.refused(BadParting, {"rank": 2}, call, web, Parting.flat([1, 1, 3]))
            self.refused(BadParting, {"rank": 2}, call, web, Parting.flat([1, 1]))
            self.refused(BadParting, {"rank": 3}, call, web, Parting.flat([1, 1, 2, 0]))
            self.refused(BadParting, {"rank": 0}, call, web, Parting.flat([0, 1, 3]))

    def test_great_webs(self):
        dice = random.Random(4)
        table = [[dice.randint(0, 1) for _ in range(40)] for _ in range(40)]
        line = [[int(y in (x, x + 1)) for y in range(40)] for x in range(40)]
        for tables in ([table] * 11, [line] * 11, [[[10 ** 12] * 40] * 40] * 11):
            web = Web(tables)
            found = coarsest(web, Parting.flat(web.sizes))
            self.assertIs(is_fair(web, found), True)
        self.assertEqual(found, Parting.flat([40] * 12))


if __name__ == "__main__":
    unittest.main()
