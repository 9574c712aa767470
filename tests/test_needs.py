import unittest

from upsanddowns.errors import BadRank, BadTable, NotKept, NotPositive
from upsanddowns.kept import Kept
from upsanddowns.needs import may_end, need, next_fits, reflected, reflected_to
from upsanddowns.normal import told_count
from upsanddowns.numbers import Numbers
from upsanddowns.webs import Web
from upsanddowns.weights import is_balanced, weights
from upsanddowns.words import rise

from tests import helpers
from tests.helpers import Errors, all_kept, all_tuples, mult, places_of, with_diagonal, words_to


def may_reflect(kept, most=60):
    """True if the kept web can be reflected, and is not great then."""
    q, r = kept.pair_at(kept.top)
    under = kept.sizes[kept.top - 1] if kept.top else 0
    return r >= 0 and q * under + r * kept.sizes[kept.top] <= most


class NeedTest(Errors, unittest.TestCase):
    def test_needs(self):
        for kept in all_kept():
            q, r = kept.pair_at(kept.top)
            found = need(kept)
            self.assertEqual(found, with_diagonal(kept.below(kept.top), q, r))
            self.assertTrue(all_tuples(found))
            for n in range(kept.top):
                self.assertEqual(need(kept.cut(n)), kept.above(n))
            self.assertIs(may_end(kept), not any(any(row) for row in found))

    def test_ends(self):
        falling = Kept(Web.subsets(3), Numbers.falling(3))
        self.assertEqual(need(falling), ((0,),))
        self.assertIs(may_end(falling), True)
        self.assertIs(may_end(Kept(Web.shapes(2), Numbers.steady(1, 1))), False)
        self.assertIs(may_end(Kept(Web([[[1, 0]]]), Numbers([(1, 1), (0, 0)]))), True)
        self.assertEqual(need(Kept(Web([[]], sizes=[0, 0]), Numbers([]))), ())
        self.assertIs(may_end(Kept(Web([], sizes=[0]), Numbers([]))), True)
        for kept in all_kept():
            if may_end(kept):
                self.assertEqual(Kept(kept.web.empty_rank(), kept.numbers).top, kept.top + 1)
            else:
                with self.assertRaises(NotKept):
                    Kept(kept.web.empty_rank(), kept.numbers)


class ReflectedTest(Errors, unittest.TestCase):
    def test_tables(self):
        seen = 0
        for kept in all_kept():
            if kept.pair_at(kept.top)[1] < 0:
                self.refused(NotPositive, {"rank": kept.top}, reflected, kept)
            elif may_reflect(kept):
                seen += 1
                found = reflected(kept)
                self.assertEqual(found.numbers, kept.numbers)
                self.assertEqual(found.web.cut(kept.top), kept.web)
                self.assertEqual(found, helpers.reflect(kept))
                if kept.web.is_even:
                    self.assertTrue(found.web.is_even)
        self.assertGreater(seen, 15)

    def test_order_of_the_copies(self):
        kept = Kept(Web([[[1, 2]]], downs=[[[3, 1]]]), Numbers([(1, 5), (2, 1)]))
        found = reflected(kept)
        self.assertEqual(found.web.ups[1], ((3, 3, 1, 0), (1, 1, 0, 1)))
        self.assertEqual(found.web.downs[1], ((1, 1, 1, 0), (2, 2, 0, 1)))
        alone = reflected(Kept(Web([], sizes=[2]), Numbers([(9, 2)])))
        self.assertEqual((alone.web.ups, alone.web.downs), ((((1, 0, 1, 0), (0, 1, 0, 1)),),) * 2)

    def test_no_places(self):
        many = 10 ** 12
        ended = Kept(Web.subsets(2).empty_rank(), Numbers.falling(2).changed(3, (3, 1)))
        found = reflected(ended)
        self.assertEqual(found.sizes, (1, 2, 1, 0, 3))
        self.assertTrue(all(found.web.is_fresh(4, x) for x in range(3)))
        self.assertEqual(reflected(Kept(Web([], sizes=[0]), Numbers([(many, many)]))).sizes, (0, 0))
        self.assertEqual(reflected(Kept(Web([], sizes=[1]), Numbers([(many, 2)]))).sizes, (1, 2))
        late = Kept(Web([[]], sizes=[0, 1]), Numbers([(1, 1), (many, 1)]))
        self.assertEqual(reflected(late).sizes, (0, 1, 1))
        self.assertEqual(reflected(Kept(Web([[[1]]]), Numbers([(1, 1), (2, 0)]))).sizes, (1, 1, 2))

    def test_weights(self):
        for kept in all_kept():
            if not may_reflect(kept) or not is_balanced(kept.web):
                continue
            rows = weights(kept.web)
            found = reflected(kept)
            self.assertTrue(is_balanced(found.web))
            q, r = kept.pair_at(kept.top)
            under = rows[kept.top - 1] if kept.top else ()
            last = under * q + rows[kept.top] * r
            for x in range(kept.sizes[kept.top]):
                for y, weight in enumerate(last):
                    self.assertEqual(
                        found.web.ups[kept.top][x][y] * weight, found.web.downs[kept.top][x][y] * rows[kept.top][x]
                    )

    def test_fresh_copies(self):
        # The place of rank 1 has no strand above.
        kept = Kept(Web([[[1]], [[0, 0]]]), Numbers([(1, 1), (0, 0), (2, 1)]))
        found = reflected(kept)
        self.assertEqual(found.sizes, (1, 1, 2, 4))
        self.assertEqual([found.web.is_fresh(3, y) for y in range(4)], [True, True, False, False])

    def test_again_and_again(self):
        for kept in all_kept():
            top = kept.top
            faults = [n for n in range(top, top + 2) if kept.pair_at(n)[1] < 0]
            self.assertIs(reflected_to(kept, top), kept)
            if faults:
                self.refused(NotPositive, {"rank": faults[0]}, reflected_to, kept, top + 2)
            elif may_reflect(kept, 20) and may_reflect(reflected(kept), 60):
                self.assertEqual(reflected_to(kept, top + 2), reflected(reflected(kept)))
        kept = Kept(Web([], sizes=[1]), Numbers([(1, 1), (1, 1), (1, -1)]))
        self.assertEqual(reflected_to(kept, 2).sizes, (1, 1, 2))
        self.refused(NotPositive, {"rank": 2}, reflected_to, kept, 3)
        self.refused(NotPositive, {"rank": 2}, reflected_to, kept, 10 ** 15)
        for top in (-1, True, None, "1"):
            self.refused(BadRank, {"rank": top}, reflected_to, kept, top)
        lower = Kept(Web.subsets(2), Numbers.falling(2))
        self.refused(BadRank, {"rank": 1}, reflected_to, lower, 1)
        self.refused(NotPositive, {"rank": 2}, reflected_to, lower, 3)
        self.assertIs(reflected_to(lower, 2), lower)

    def test_for_ever(self):
        for kept in all_kept():
            if kept.numbers.is_positive and may_reflect(kept, 30):
                found = reflected(kept)
                self.assertTrue(kept.numbers.lively_to(30))
                self.assertGreaterEqual(found.pair_at(found.top)[1], 1)

    def test_what_goings_on_agree_in(self):
        seen = 0
        for kept in all_kept():
            if not may_reflect(kept, 14) or kept.top < 1:
                continue
            found = reflected(kept)
            for place in places_of(kept.web):
                for word in words_to(4) + ["uuuddd"]:
                    last = place[0] + rise(word)
                    if 0 <= last <= kept.top:
                        for y in range(kept.sizes[last]):
                            seen += 1
                            self.assertEqual(
                                told_count(kept, place, word, (last, y)), told_count(found, place, word, (last, y))
                            )
        self.assertGreater(seen, 3000)

    def test_sizes_of_reflected_words(self):
        one = Numbers.steady(1, 1)
        self.assertEqual(reflected_to(Kept(Web.shapes(2), one), 5).sizes, (1, 1, 2, 3, 5, 8))
        self.assertEqual(reflected_to(Kept(Web([], sizes=[1]), one), 6).web, Web.words(6))


class FitsTest(Errors, unittest.TestCase):
    def test_all_tables(self):
        kept = Kept(Web.shapes(2), Numbers.steady(1, 1))
        good = 0
        for entries in range(4 ** 4):
            row = [entries // 4 ** at % 4 for at in range(4)]
            ups = [row[:2], row[2:]]
            for downs in (None, [[1, 0], [0, 1]], ((2, 1), (1, 2))):
                under = ups if downs is None else downs
                table = tuple(tuple(sum(a * b for a, b in zip(x, y)) for y in under) for x in ups)
                told = next_fits(kept, ups) if downs is None else next_fits(kept, ups, downs)
                self.assertIs(told, table == need(kept))
                good += told
        self.assertGreater(good, 1)
        self.assertTrue(next_fits(kept, ((1, 1, 0), (1, 0, 1))))
        self.assertTrue(next_fits(kept, [[1, 1, 0], [1, 0, 1]], [[0, 2, 1], [0, 1, 2]]))

    def test_next_ranks(self):
        seen = 0
        for kept in all_kept():
            if kept.top > 0 and 0 not in kept.sizes:
                less = kept.cut(kept.top - 1)
                ups, downs = kept.web.ups[-1], kept.web.downs[-1]
                self.assertTrue(next_fits(less, ups, downs))
                more = [[entry + 1 for entry in ups[0]]] + [list(row) for row in ups[1:]]
                table = mult(more, tuple(zip(*downs)))
                self.assertIs(next_fits(less, more, downs), table == need(less))
                seen += table != need(less)
                self.assertIs(next_fits(less, ups), mult(ups, tuple(zip(*ups))) == need(less))
        self.assertGreater(seen, 10)

    def test_refused(self):
        kept = Kept(Web.shapes(2), Numbers.steady(1, 1))
        for ups in (None, 5, [[1, 1]], [[1, 1], [1]], [[1, -1], [0, 1]], [[True], [1]], [[1], [1], [1]]):
            self.refused(BadTable, {"rank": 2, "side": "ups"}, next_fits, kept, ups, 5)
        for downs in (5, [[1, 1]], [[1, 1], [1]], [[1], [1]], [[1, -1], [0, 1]]):
            self.refused(BadTable, {"rank": 2, "side": "downs"}, next_fits, kept, [[1, 1], [1, 1]], downs)
        ended = Kept(Web([[[]]], sizes=[1, 0]), Numbers([(1, 0)]))
        self.refused(BadTable, {"rank": 1, "side": "ups"}, next_fits, ended, [])
        # A next rank without places fits where it may end.
        self.assertTrue(next_fits(Kept(Web.subsets(2), Numbers.falling(2)), [[]]))
        self.assertFalse(next_fits(kept, [[], []]))


if __name__ == "__main__":
    unittest.main()
