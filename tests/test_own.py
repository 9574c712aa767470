import random
import unittest

from upsanddowns.errors import BadNumbers, BadRank, NoneSuch, NotKept, Unseen
from upsanddowns.joins import product, thick
from upsanddowns.judging import judge, keeps
from upsanddowns.kept import Kept
from upsanddowns.makers import chain
from upsanddowns.numbers import Numbers
from upsanddowns.own import own_numbers, product_pair, thick_numbers, told_apart
from upsanddowns.webs import Web

from tests.helpers import Errors, all_kept, any_webs, random_web


class OwnTest(Errors, unittest.TestCase):
    def test_own_numbers(self):
        for kept in all_kept():
            for n in range(kept.top):
                one, two = own_numbers(kept, n), judge(kept.web, n)
                self.assertEqual(
                    (one.rank, one.word, one.pair, one.places, one.line),
                    (two.rank, two.word, two.pair, two.places, two.line),
                )
                self.assertNotEqual(one.word, "none")
        kept = Kept(Web.shapes(2), Numbers.steady(1, 1))
        self.refused(BadRank, {"rank": 3}, own_numbers, kept, 3)
        self.refused(Unseen, {"rank": 3}, own_numbers, kept, 2)

    def slow_apart(self, kept, n):
        sizes = (0,) + kept.sizes
        rising = [i for i in range(n + 1) if sizes[i + 1] > sizes[i]]
        pairs = [
            (i, j) for i in rising for j in rising
            if i < j and kept.numbers.gain(i, n - i) != kept.numbers.gain(j, n - j)
        ]
        return min(pairs) if pairs else None

    def test_told_apart(self):
        found = set()
        for kept in all_kept():
            for n in range(kept.top + 1):
                pair = told_apart(kept, n)
                self.assertEqual(pair, self.slow_apart(kept, n))
                if kept.numbers.lively_to(n) and n < kept.top and kept.sizes[n] > 0:
                    self.assertIs(own_numbers(kept, n).word == "one", pair is not None)
                    found.add(pair is None)
        self.assertEqual(found, {True, False})
        self.assertEqual(told_apart(Kept(Web.shapes(3), Numbers.steady(1, 1)), 3), (0, 2))
        self.assertEqual(told_apart(Kept(Web.subsets(4), Numbers.falling(4)), 4), (0, 1))
        self.assertEqual(told_apart(Kept(Web.tree([1, 1]), Numbers([(0, 1), (0, 1)])), 2), None)

    def test_told_apart_refused(self):
        kept = Kept(Web.shapes(2), Numbers.steady(1, 1))
        for rank in (-1, 3, True, None):
            self.refused(BadRank, {"rank": rank}, told_apart, kept, rank)


class ProductPairTest(Errors, unittest.TestCase):
    kinds = [
        Kept(Web.shapes(3), Numbers.steady(1, 1)),
        Kept(Web.words(4), Numbers.steady(1, 1)),
        Kept(Web.subsets(3), Numbers.falling(3)),
        Kept(Web.subsets(2).empty_rank(), Numbers.falling(2)),
        Kept(Web.spaces(2), Numbers([(1, 3), (1, 0)])),
        Kept(Web.shapes(2) >> 1, Numbers.steady(1, 1).raised(1, (1, 5))),
        Kept(chain(Numbers([(1, 2), (1, 3), (1, -1)]), 0, 3), Numbers([(1, 2), (1, 3), (1, -1)])),
        Kept(Web([[], []], sizes=[0, 0, 0]), Numbers([(1, 4)])),
        Kept(Web([], sizes=[2]), Numbers([(1, 4)])),
    ]

    def test_what_the_product_keeps(self):
        seen = set()
        for one in self.kinds:
            for two in self.kinds:
                web = product(one.web, two.web)
                for n in range(web.top + 1):
                    sums = {
                        one.numbers[i][1] + two.numbers[n - i][1]
                        for i in range(n + 1) if one.sizes[i] > 0 and two.sizes[n - i] > 0
                    }
                    s = product_pair(one, two, n)
                    self.assertEqual(s, 0 if not sums else None if len(sums) > 1 else min(sums))
                    seen.add((s is None, not sums))
                    if n < web.top and web[n] > 0:
                        for r in range(-9, 10):
                            self.assertIs(keeps(web, n, 1, r), r == s)
        self.assertEqual(seen, {(True, False), (False, True), (False, False)})

    def test_no_pair_with_another_q(self):
        seen = 0
        webs = any_webs() + [random_web(21, [2, 2, 2, 2]), Web.words(3)]
        for one in webs:
            for two in webs:
                web = product(one, two)
                for n in range(web.top):
                    if self.crossing(one, two, n) or self.crossing(two, one, n):
                        seen += 1
                        judged = judge(web, n)
                        self.assertTrue(judged.word == "none" or (judged.word == "one" and judged.pair[0] == 1))
        self.assertGreater(seen, 20)

    def crossing(self, one, two, n):
        for i in range(min(n, one.top) + 1):
            ups = any(any(one.up_row(i, x)) for x in range(one[i]))
            if ups and n - i <= two.top and any(any(two.down_row(n - i, z)) for z in range(two[n - i])):
                return True
        return False

    def test_refused(self):
        one, two = self.kinds[0], self.kinds[8]
        for rank in (-1, 1, True, None):
            self.refused(BadRank, {"rank": rank}, product_pair, one, two, rank)
            self.refused(BadRank, {"rank": rank}, product_pair, two, one, rank)
        self.assertEqual(product_pair(one, two, 0), 5)
        tree = Kept(Web.tree([2, 1]), Numbers([(1, 2), (0, 1)]))
        other = Kept(Web.shapes(2), Numbers([(2, 1)]))
        self.refused(NotKept, {"rank": 1, "first": -1, "second": -1}, product_pair, tree, other, 1)
        self.refused(NotKept, {"rank": 0, "first": -1, "second": -1}, product_pair, tree, other, 0)
        self.refused(NotKept, {"rank": 0, "first": -1, "second": -1}, product_pair, other, tree, 2)
        self.refused(NotKept, {"rank": 1, "first": -1, "second": -1}, product_pair, one, tree, 2)
        top = Kept(Web.shapes(2), Numbers([(1, 1)] * 2, tail=(2, 1)))
        self.refused(NotKept, {"rank": 2, "first": -1, "second": -1}, product_pair, one, top, 2)
        self.assertEqual(product_pair(one, top, 1), 2)


class ThickNumbersTest(Errors, unittest.TestCase):
    def test_kept(self):
        good = bad = 0
        for seed, kept in enumerate(all_kept() * 6):
            dice = random.Random(seed)
            rows = [(dice.choice([1, 1, 2, 3]), dice.choice([1, 1, 2])) for _ in range(kept.top)]
            g = [c * d for c, d in rows]
            wrong = [
                n for n in range(1, kept.top)
                if kept.sizes[n] > 0 and kept.numbers[n][0] * g[n] % g[n - 1] != 0
            ]
            if wrong:
                bad += 1
                self.refused(NoneSuch, {"rank": wrong[0]}, thick_numbers, kept, rows)
                continue
            good += 1
            numbers = thick_numbers(kept, rows)
            Kept(thick(kept.web, rows), numbers)
            for n in range(kept.top + 8):
                q, r = kept.numbers[n]
                if n < kept.top and kept.sizes[n] > 0:
                    q, r = q * g[n] // g[n - 1] if n > 0 else q, r * g[n]
                self.assertEqual(numbers[n], (q, r))
        self.assertGreater(min(good, bad), 5)

    def test_old_pairs(self):
        kept = Kept(Web.shapes(2) >> 2, Numbers([(5, 6), (7, 8), (2, 1), (1, 1), (3, 3)], tail=(9, 9)))
        numbers = thick_numbers(kept, [(2, 1)] * 4)
        self.assertEqual([numbers[n] for n in range(6)], [(5, 6), (7, 8), (2, 2), (1, 2), (3, 3), (9, 9)])

    def test_refused(self):
        kept = Kept(Web.shapes(2), Numbers.steady(1, 1))
        for rows in (None, 5, [], [(1, 1)], [(1, 1)] * 3):
            self.refused(BadNumbers, {"at": -1}, thick_numbers, kept, rows)
        for pair in (None, (1,), (0, 1), (1, 0), (True, 1), (1, 1, 1)):
            self.refused(BadNumbers, {"at": 1}, thick_numbers, kept, [[2, 1], pair])
        self.refused(NoneSuch, {"rank": 1}, thick_numbers, kept, [(2, 1), (1, 1)])


if __name__ == "__main__":
    unittest.main()
