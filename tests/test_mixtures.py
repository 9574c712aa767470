import unittest
from fractions import Fraction
from math import comb

from upsanddowns.errors import BadNumber, NotKept, Unseen
from upsanddowns.growth import Growth
from upsanddowns.joins import pair_of, place_of, product
from upsanddowns.kept import Kept
from upsanddowns.makers import chain
from upsanddowns.mixtures import coin, product_growth, split_shares
from upsanddowns.numbers import Numbers
from upsanddowns.own import product_pair
from upsanddowns.shares import Share
from upsanddowns.webs import Web

from tests.helpers import Errors, places_at, value


def growth_in(web, numbers, place=(0, 0)):
    return Growth(Kept(web, numbers), place)


def pairs():
    """Pairs of growths whose webs have a product that keeps numbers, even and unlike ones, some late."""
    one, two = Numbers.steady(1, 1), Numbers.steady(1, 2)
    shapes, words = growth_in(Web.shapes(4), one), growth_in(Web.words(4), one)
    doubled = growth_in(Web.shapes(3) * Web.shapes(3), two)
    lines = growth_in(chain(one, 0, 4), one)
    raised = growth_in(Web.shapes(3) >> 1, one, (1, 0))
    late = growth_in(Web.shapes(3) + chain(one, 1, 3), one, (1, 1))
    falling = growth_in(Web.subsets(4), Numbers.falling(4))
    less = growth_in(Web.subsets(3).cut(2), Numbers.falling(3))
    spare = growth_in(chain(Numbers.falling(5), 1, 3), Numbers.falling(5), (1, 0))
    rising = growth_in(chain(Numbers([(1, 1), (1, 3), (1, 5)]), 0, 3), Numbers([(1, 1), (1, 3), (1, 5)]))
    alone = growth_in(Web([], sizes=[2]), one, (0, 1))
    return [
        (shapes, shapes), (shapes, words), (words, doubled), (shapes, lines), (raised, shapes), (shapes, raised),
        (raised, late), (late, late), (falling, less), (less, falling), (falling, spare), (rising, rising),
        (alone, shapes), (shapes, alone), (growth_in(~Web.shapes(3), one), lines),
    ]


class SplitTest(Errors, unittest.TestCase):
    def test_products(self):
        seen = 0
        for one, other in pairs():
            whole = product_growth(one, other)
            self.assertIs(type(whole), Growth)
            first, second = one.kept, other.kept
            self.assertEqual(whole.kept.web, product(first.web, second.web))
            self.assertEqual(whole.place, place_of(first.web, second.web, one.place, other.place))
            top = min(first.top, second.top)
            self.assertEqual(
                whole.kept.numbers, Numbers([(1, product_pair(first, second, n)) for n in range(top)])
            )
            i = one.origin_rank + other.origin_rank
            for n in range(top - i + 1):
                found = split_shares(one, other, n)
                self.assertIs(type(found), tuple)
                self.assertEqual(len(found), n + 1)
                self.assertEqual(sum(value(chance) for chance in found), 1)
                for place in places_at(whole.kept.web, i + n):
                    x, z = pair_of(first.web, second.web, place)
                    s = x[0] - one.origin_rank
                    want = value(found[s] * one.share(x) * other.share(z)) if 0 <= s <= n else 0
                    self.assertEqual(value(whole.share(place)), want)
                    seen += 1
        self.assertGreater(seen, 250)

    def test_chances_of_the_sides(self):
        # How many steps were taken in the first web, counted by the shares of its places.
        for one, other in pairs():
            whole = product_growth(one, other)
            web = whole.kept.web
            for n in range(web.top - whole.origin_rank + 1):
                told = [Fraction(0)] * (n + 1)
                for place in places_at(web, whole.origin_rank + n):
                    x, _ = pair_of(one.kept.web, other.kept.web, place)
                    if not whole.share(place).is_nought():
                        told[x[0] - one.origin_rank] += value(whole.share(place))
                self.assertEqual([value(chance) for chance in split_shares(one, other, n)], told)

    def test_coins(self):
        for r in range(1, 4):
            for other_r in range(1, 4):
                one, two = Numbers.steady(1, r), Numbers.steady(1, other_r)
                first, second = growth_in(chain(one, 0, 4), one), growth_in(chain(two, 0, 4), two)
                for n in range(5):
                    told = split_shares(first, second, n)
                    self.assertEqual(told, tuple(coin(r, other_r, n, s) for s in range(n + 1)))

    def test_refused(self):
        one = Numbers.steady(1, 1)
        shapes = growth_in(Web.shapes(3), one)
        late = growth_in(Web.shapes(1) >> 2, one, (2, 0))
        mixed = growth_in(chain(Numbers([(1, 1), (2, 1), (1, 1)]), 0, 3), Numbers([(1, 1), (2, 1), (1, 1)]))
        uneven = growth_in(chain(Numbers([(1, 1), (1, 4)]), 0, 3), Numbers([(1, 1), (1, 4)]))
        for steps in (-1, True, None, "1"):
            self.refused(BadNumber, {"name": "steps"}, split_shares, late, late, steps)
        self.refused(Unseen, {"rank": 4}, split_shares, shapes, mixed, 4)
        self.refused(Unseen, {"rank": 4}, split_shares, late, late, 0)
        self.refused(Unseen, {"rank": 4}, product_growth, late, late)
        self.refused(Unseen, {"rank": 5}, split_shares, late, shapes, 3)
        tall = growth_in(Web.shapes(5), one)
        self.refused(Unseen, {"rank": 4}, split_shares, tall, shapes, 4)
        self.refused(Unseen, {"rank": 4}, split_shares, shapes, tall, 4)
        for call in (product_growth, lambda a, b: split_shares(a, b, 0)):
            self.refused(NotKept, {"rank": 1, "first": -1, "second": -1}, call, shapes, mixed)
            self.refused(NotKept, {"rank": 1, "first": -1, "second": -1}, call, mixed, shapes)
            self.refused(NotKept, {"rank": 1, "first": -1, "second": -1}, call, shapes, uneven)
        # q is asked at rank 0 already, ahead of the sums of rank 1.
        thin = growth_in(Web([[[1]], [[1]]]), Numbers([(0, 1), (1, 0)]))
        self.refused(NotKept, {"rank": 0, "first": -1, "second": -1}, product_growth, thin, uneven)
        # At the lesser top no pair is asked for.
        last = growth_in(Web.shapes(3), Numbers([(1, 1)] * 3 + [(5, 1)]))
        self.assertEqual(len(split_shares(last, shapes, 3)), 4)
        self.assertEqual(product_growth(last, shapes).kept.numbers, Numbers([(1, 2)] * 3))


class CoinTest(Errors, unittest.TestCase):
    def test_throws(self):
        for r in range(4):
            for s in range(4):
                if r + s == 0:
                    continue
                for n in range(6):
                    row = [coin(r, s, n, first) for first in range(n + 1)]
                    for first, one in enumerate(row):
                        self.assertIs(type(one), Share)
                        want = Fraction(comb(n, first) * r ** first * s ** (n - first), (r + s) ** n)
                        self.assertEqual(value(one), want)
                    self.assertEqual(sum(value(one) for one in row), 1)
        self.assertEqual(str(coin(0, 5, 0, 0)), "1/1")
        self.assertEqual(str(coin(0, 5, 3, 0)), "1/1")
        self.assertEqual(str(coin(0, 5, 3, 1)), "0/1")
        many = 10 ** 12
        self.assertEqual(value(coin(many, 2 * many, 12, 5)), Fraction(comb(12, 5) * 2 ** 7, 3 ** 12))

    def test_refused(self):
        for wrong in (-1, True, None, "1"):
            self.refused(BadNumber, {"name": "r"}, coin, wrong, -1, -1, -1)
            self.refused(BadNumber, {"name": "s"}, coin, 1, wrong, -1, -1)
            self.refused(BadNumber, {"name": "steps"}, coin, 1, 1, wrong, -1)
            self.refused(BadNumber, {"name": "first"}, coin, 1, 1, 3, wrong)
        self.refused(BadNumber, {"name": "s"}, coin, 0, 0, -1, -1)
        self.refused(BadNumber, {"name": "first"}, coin, 1, 1, 3, 4)
        self.refused(BadNumber, {"name": "r"}, coin, -1, 0, 0, 0)


if __name__ == "__main__":
    unittest.main()
