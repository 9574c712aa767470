import random
import unittest
from fractions import Fraction

from upsanddowns.errors import BadParting, NotPositive
from upsanddowns.flat import flat_rows, product_parting, reflected_parting
from upsanddowns.folding import folded, folded_kept
from upsanddowns.gates import gate
from upsanddowns.growth import Growth
from upsanddowns.joins import pair_of, product
from upsanddowns.kept import Kept
from upsanddowns.lotsapart import greatest_apart
from upsanddowns.meeting import above_of
from upsanddowns.needs import reflected
from upsanddowns.numbers import Numbers
from upsanddowns.partings import Parting, coarsest, is_fair
from upsanddowns.webs import Web
from upsanddowns.writings import column_room, grown_by, writings

from tests.helpers import (
    Errors, all_kept, all_tuples, any_webs, fair_partings, lots_of, places_at, random_split, value,
)


def flat_webs():
    return [
        Web.subsets(4), Web.spaces(3), Web.tree([2, 1, 3]), Web([], sizes=[3]), Web([[[2, 2], [2, 2]]]),
        Web([[[1, 1]], [[1], [1]]], downs=[[[3, 3]], [[2], [2]]]), Web([[[0]]]), ~Web.subsets(3),
        Web([[[1, 1, 0], [0, 1, 1], [1, 0, 1]]], downs=[[[0, 2, 1], [1, 0, 2], [2, 1, 0]]]),
    ]


def may_reflect(kept):
    q, r = kept.pair_at(kept.top)
    under = kept.sizes[-2] if kept.top else 0
    return r >= 0 and q * under + r * kept.sizes[-1] <= 40


class RowsTest(Errors, unittest.TestCase):
    def test_rows(self):
        found = 0
        for web in flat_webs() + any_webs() + [kept.web for kept in all_kept()]:
            told = flat_rows(web)
            ups = [{sum(row) for row in table} for table in web.ups]
            downs = [{sum(column) for column in zip(*table)} for table in web.downs]
            if 0 in web.sizes or any(len(one) != 1 for one in ups + downs):
                self.assertIsNone(told)
            else:
                found += 1
                self.assertEqual(told, (tuple(min(one) for one in ups), tuple(min(one) for one in downs)))
                self.assertTrue(all_tuples(told))
                self.assertIs(is_fair(web, Parting.flat(web.sizes)), True)
        self.assertGreater(found, 10)
        self.assertEqual(flat_rows(Web([], sizes=[3])), ((), ()))
        self.assertIsNone(flat_rows(Web([], sizes=[0])))
        self.assertIsNone(flat_rows(Web([[[]]], sizes=[1, 0])))
        self.assertEqual(flat_rows(Web([[[0]]])), ((0,), (0,)))
        self.assertEqual(flat_rows(Web([[[1, 2]]], downs=[[[1, 1]]])), ((3,), (1,)))
        self.assertIsNone(flat_rows(Web([[[1], [2]]], downs=[[[1], [1]]])))
        self.assertIsNone(flat_rows(Web([[[1, 1]]], downs=[[[1, 2]]])))

    def test_products(self):
        seen = shared = 0
        kepts = all_kept() + [Kept(Web.spaces(2), Numbers([(1, 3), (1, 0)]))]
        for kept in kepts:
            told = flat_rows(kept.web)
            if told is None:
                continue
            p = kept.sizes
            for n in range(kept.top):
                self.assertEqual(told[0][n] * told[1][n], kept.numbers.gain(0, n + 1))
                if kept.web.is_even:
                    self.assertEqual(p[n + 1] * told[1][n], p[n] * told[0][n])
                seen += 1
            if not kept.web.is_even or p[0] != 1:
                continue
            if any(kept.numbers.gain(0, k) < 1 for k in range(1, kept.top + 1)):
                continue
            growth = Growth(kept, (0, 0))
            for n in range(kept.top + 1):
                self.assertEqual([value(one) for one in growth.shares(n)], [Fraction(1, p[n])] * p[n])
                for lot in lots_of(p[n], 3) if n < kept.top else []:
                    self.assertGreaterEqual(len(above_of(growth, n, lot)) * p[n], len(lot) * p[n + 1])
                    shared += 1
            self.assertLessEqual(sum(Fraction(1, p[n]) for n, _ in greatest_apart(kept.web)), 1)
        self.assertGreater(seen, 12)
        self.assertGreater(shared, 30)


class ReflectedTest(Errors, unittest.TestCase):
    def test_lots(self):
        dice = random.Random(1)
        for kept in all_kept():
            if not may_reflect(kept):
                continue
            q, r = kept.pair_at(kept.top)
            under = kept.sizes[-2] if kept.top else 0
            for _ in range(3):
                # The parting need not be fair.
                told = Parting([random_split(dice, size) if size else [] for size in kept.sizes])
                found = reflected_parting(kept, told)
                self.assertIs(type(found), Parting)
                self.assertEqual(found.rows[:-1], told.rows)
                want = [
                    tuple(c * under + z for z in lot) for c in range(q) for lot in (told.rows[-2] if kept.top else ())
                ]
                want += [
                    tuple(q * under + c * kept.sizes[-1] + x for x in lot) for c in range(r) for lot in told.rows[-1]
                ]
                self.assertEqual(found.rows[-1], tuple(sorted(want)))

    def test_folds(self):
        seen = 0
        for kept in all_kept():
            if not may_reflect(kept):
                continue
            q, r = kept.pair_at(kept.top)
            for parting in fair_partings(kept.web):
                more = reflected(kept)
                told = reflected_parting(kept, parting)
                self.assertIs(is_fair(more.web, told), True)
                fold = folded_kept(more, told)
                lots = parting.lot_sizes()
                self.assertEqual(fold.sizes[-1], q * (lots[-2] if kept.top else 0) + r * lots[-1])
                # The copies of the lots stand in the order of their first places, which is that of the reflected fold.
                self.assertEqual(fold, reflected(folded_kept(kept, parting)))
                seen += parting != Parting.single(kept.sizes)
        self.assertGreater(seen, 15)

    def test_great_numbers(self):
        many = 10 ** 12
        none = Kept(Web([], sizes=[0]), Numbers([(many, many)]))
        self.assertEqual(reflected_parting(none, Parting([[]])), Parting([[], []]))
        late = Kept(Web([[]], sizes=[0, 2]), Numbers([(1, 1), (many, 1)]))
        self.assertEqual(reflected_parting(late, Parting([[], [[1, 0]]])), Parting([[], [[0, 1]], [[0, 1]]]))

    def test_refused(self):
        kept = Kept(Web.subsets(2), Numbers.falling(2))
        self.refused(BadParting, {"rank": 1}, reflected_parting, kept, Parting.flat([1, 1]))
        self.refused(BadParting, {"rank": 3}, reflected_parting, kept, Parting.flat([1, 2, 1, 0]))
        self.refused(NotPositive, {"rank": 2}, reflected_parting, kept, Parting.flat([1, 2, 1]))
        nought = Kept(kept.web, kept.numbers.changed(2, (2, 0)))
        found = reflected_parting(nought, Parting.flat([1, 2, 1]))
        self.assertEqual(found.rows[3], ((0, 1), (2, 3)))


class ProductTest(Errors, unittest.TestCase):
    def test_lots(self):
        dice = random.Random(2)
        webs = any_webs()
        for one in webs:
            for other in webs[::2]:
                first = Parting([random_split(dice, size) if size else [] for size in one.sizes])
                second = Parting([random_split(dice, size) if size else [] for size in other.sizes])
                found = product_parting(one, other, first, second)
                self.assertIs(type(found), Parting)
                whole = product(one, other)
                self.assertEqual(found.sizes, whole.sizes)
                for n in range(whole.top + 1):
                    keys = []
                    for place in places_at(whole, n):
                        (i, x), (j, z) = pair_of(one, other, place)
                        keys.append((i, first.lot_of(i, x), second.lot_of(j, z)))
                    for x in range(whole[n]):
                        for y in range(whole[n]):
                            self.assertIs(found.lot_of(n, x) == found.lot_of(n, y), keys[x] == keys[y])

    def test_folds(self):
        webs = [Web.shapes(3), Web.subsets(3), Web.tree([2, 2]), any_webs()[3], any_webs()[8]]
        seen = 0
        for one in webs:
            for other in webs:
                whole = product(one, other)
                for first in fair_partings(one)[:3]:
                    for second in fair_partings(other)[:3]:
                        told = product_parting(one, other, first, second)
                        self.assertIs(is_fair(whole, told), True)
                        fold, want = folded(whole, told), product(folded(one, first), folded(other, second))
                        self.assertEqual(fold.sizes, want.sizes)
                        # Lots of a product are told by their first places, so both have one order.
                        self.assertEqual(fold, want)
                        seen += told != Parting.single(whole.sizes)
        self.assertGreater(seen, 40)

    def test_refused(self):
        one, other = Web.shapes(2), Web.subsets(2)
        good, well = Parting.flat([1, 1, 2]), Parting.flat([1, 2, 1])
        self.refused(BadParting, {"rank": 1}, product_parting, one, other, well, good)
        self.refused(BadParting, {"rank": 1}, product_parting, one, other, good, good)
        self.refused(BadParting, {"rank": 2}, product_parting, one, other, Parting.flat([1, 1]), good)
        # All ranks of both webs count, also those above the top of the product.
        higher = Web.subsets(3)
        self.refused(BadParting, {"rank": 3}, product_parting, one, higher, good, Parting.flat([1, 3, 3]))
        self.refused(BadParting, {"rank": 3}, product_parting, higher, one, Parting.flat([1, 3, 3]), good)


class GoingOnTest(Errors, unittest.TestCase):
    def cuts(self):
        """Even kept webs with few writings, cut at all ranks."""
        found = [kept.cut(n) for kept in all_kept() if kept.web.is_even for n in range(kept.top + 1)]
        return [kept for kept in found if kept.sizes[-1] <= 4 and 0 <= column_room(kept) <= 12]

    def test_folded_goings_on(self):
        seen = 0
        for kept in self.cuts():
            for writing in list(writings(kept))[:3]:
                more = grown_by(kept, writing)
                for parting in fair_partings(kept.web):
                    last = [list(range(more.sizes[-1]))] if more.sizes[-1] else []
                    told = coarsest(more.web, Parting(list(parting.rows) + [last]))
                    if told.rows[:-1] != parting.rows:
                        continue
                    fold = folded_kept(more, told)
                    self.assertEqual(fold.cut(kept.top), folded_kept(kept, parting))
                    if kept.numbers.lively_to(kept.top + 1):
                        lots = told.lot_sizes()
                        self.assertGreaterEqual(lots[-1], lots[-2])
                        for n in range(kept.top + 1):
                            whole = list(range(lots[n]))
                            self.assertEqual(len(gate(fold.web, n, whole, more.top - n)), lots[n])
                        seen += parting != Parting.single(kept.sizes)
        self.assertGreater(seen, 10)


if __name__ == "__main__":
    unittest.main()
