import unittest
from fractions import Fraction

from upsanddowns.errors import (
    BadNumber, BadPlace, BadRank, BadReading, NotLively, NotPositive, Unseen,
)
from upsanddowns.growth import Growth
from upsanddowns.kept import Kept
from upsanddowns.levels import core, pure_basis
from upsanddowns.makers import chain
from upsanddowns.normal import told_count
from upsanddowns.numbers import Numbers
from upsanddowns.shares import Share
from upsanddowns.spreads import (
    distance, likeness, mean, mean_back, ratio, slowest, two_levels, variance, variance_back,
)
from upsanddowns.webs import Web
from upsanddowns.weights import weights

from tests.helpers import (
    Errors, growing_kept, growths_of, lift, places_at, readings_of, slow_ways, value,
)


def growths():
    return [growth for growth in growths_of(growing_kept()) if sum(growth.kept.sizes) <= 35]


def joint(growth, n, k):
    """The chance that growth comes to x of rank n and then to y of rank n + k, by both numbers."""
    found = {}
    for x in range(growth.kept.sizes[n]):
        if growth.back((n, x)):
            steps = growth.chances((n, x), "u" * k)
            for y, one in enumerate(steps):
                found[(x, y)] = value(growth.share((n, x))) * value(one)
    return found


def good_growths():
    """Growths from rank 0 for which the bounds of the variances are promised."""
    found = []
    for growth in growths():
        kept = growth.kept
        pairs = [kept.pair_at(n) for n in range(kept.top + 1)] + list(kept.numbers.pairs) + [kept.numbers.tail]
        if growth.place == (0, 0) and kept.sizes[0] == 1 and weights(kept.web) is not None:
            if all(q >= 1 and r >= 1 for q, r in pairs):
                found.append(growth)
    return found


class MeanTest(Errors, unittest.TestCase):
    def test_means(self):
        for growth in growths():
            for n in range(growth.origin_rank, growth.kept.top + 1):
                shares = [value(one) for one in growth.shares(n)]
                for row in readings_of(n, growth.kept.sizes[n]):
                    middle = sum(share * one for share, one in zip(shares, row))
                    found = mean(growth, n, list(row))
                    self.assertIs(type(found), Share)
                    self.assertEqual(value(found), middle)
                    spread = variance(growth, n, row)
                    self.assertIs(type(spread), Share)
                    self.assertEqual(
                        value(spread), sum(share * one ** 2 for share, one in zip(shares, row)) - middle ** 2
                    )
                    self.assertTrue(spread.at_least(0))

    def test_given_what_comes_behind(self):
        noughts = 0
        for growth in growths():
            kept = growth.kept
            for n in range(growth.origin_rank, kept.top + 1):
                for k in range(kept.top - n + 1):
                    both = joint(growth, n, k)
                    for row in readings_of(n, kept.sizes[n])[-4:]:
                        found = mean_back(growth, n, list(row), k)
                        self.assertIs(type(found), tuple)
                        means, whole = [], []
                        for y in range(kept.sizes[n + k]):
                            share = value(growth.share((n + k, y)))
                            self.assertEqual(share, sum(one for (_, z), one in both.items() if z == y))
                            if share == 0:
                                self.assertIsNone(found[y])
                                noughts += 1
                                continue
                            told = sum(one * row[x] for (x, z), one in both.items() if z == y) / share
                            self.assertIs(type(found[y]), Share)
                            self.assertEqual(value(found[y]), told)
                            means.append(told)
                            whole.append(share)
                        middle = sum(a * b for a, b in zip(means, whole))
                        spread = sum(a * a * b for a, b in zip(means, whole)) - middle ** 2
                        back = variance_back(growth, n, row, k)
                        self.assertIs(type(back), Share)
                        self.assertEqual(value(back), spread)
                        self.assertEqual(middle, value(mean(growth, n, row)))
                        self.assertTrue(variance(growth, n, row).at_least(back))
                        if k == 0:
                            self.assertEqual(back, variance(growth, n, row))
        self.assertGreater(noughts, 50)

    def test_refused(self):
        growth = Growth(Kept(Web.shapes(2) + chain(Numbers.steady(1, 1), 1, 2), Numbers.steady(1, 1)), (1, 1))
        calls = (mean, variance, lambda g, n, f: mean_back(g, n, f, -1), lambda g, n, f: variance_back(g, n, f, -1),
                 two_levels)
        for call in calls:
            for rank in (-1, 3, True, None, 0):
                self.refused(BadRank, {"rank": rank}, call, growth, rank, None)
            for wrong in (None, 5, [1], [1, 2, 3], [1, True], [1, None], "ab"):
                self.refused(BadReading, {"rank": 1}, call, growth, 1, wrong)
        for call in (mean_back, variance_back):
            for steps in (-1, True, None):
                self.refused(BadNumber, {"name": "steps"}, call, growth, 1, [1, 2], steps)
            self.refused(Unseen, {"rank": 3}, call, growth, 1, [1, 2], 2)


class LevelsTest(Errors, unittest.TestCase):
    def test_slowest(self):
        for kept in growing_kept():
            for n in range(kept.top + 1):
                rising = [j for j in range(1, n + 1) if kept.sizes[j] > kept.sizes[j - 1]]
                self.assertEqual(slowest(kept, n), rising[0] if rising else None)
        for rank in (-1, 5, True, None):
            self.refused(BadRank, {"rank": rank}, slowest, Kept(Web.shapes(4), Numbers([])), rank)

    def test_ratios(self):
        for growth in growths():
            numbers = growth.kept.numbers
            for n in range(growth.origin_rank, growth.kept.top + 1):
                for j in range(n + 1):
                    for k in range(5):
                        gains = [numbers.gain(0, n + at) for at in range(1, k + 1)]
                        low = [at for at, gain in enumerate(gains) if gain < 1]
                        if low:
                            self.refused(NotPositive, {"rank": n + low[0] + 1}, ratio, growth, n, k, j)
                            continue
                        want = Fraction(1)
                        for at in range(1, k + 1):
                            want *= Fraction(numbers.gain(j, n - j + at), numbers.gain(0, n + at))
                        found = ratio(growth, n, k, j)
                        self.assertIs(type(found), Share)
                        self.assertEqual(value(found), want)
        growth = Growth(Kept(Web.shapes(2) + chain(Numbers.steady(1, 1), 1, 2), Numbers.steady(1, 1)), (1, 1))
        for rank in (-1, 3, True, None, 0):
            self.refused(BadRank, {"rank": rank}, ratio, growth, rank, -1, -1)
        for steps in (-1, True, None):
            self.refused(BadNumber, {"name": "steps"}, ratio, growth, 2, steps, -1)
        for level in (-1, 3, True, None):
            self.refused(BadNumber, {"name": "level"}, ratio, growth, 2, 9, level)
        self.assertEqual(str(ratio(growth, 2, 50, 2)), "1/1326")
        falling = Growth(Kept(Web.subsets(2), Numbers.falling(2)), (0, 0))
        self.refused(NotPositive, {"rank": 3}, ratio, falling, 1, 5, 0)
        self.refused(BadNumber, {"name": "level"}, ratio, falling, 1, 5, 2)

    def test_two_levels(self):
        seen = {True: 0, False: 0}
        for growth in growths():
            kept = growth.kept
            for n in range(growth.origin_rank, kept.top + 1):
                dead = kept.numbers.dead_pair(n)
                for row in readings_of(n, kept.sizes[n]):
                    if dead is not None:
                        self.refused(NotLively, {"start": dead[0], "steps": dead[1]}, two_levels, growth, n, row)
                        continue
                    times = [growth.ahead((n, x)) * one for x, one in enumerate(row)]
                    wanted = (0, slowest(kept, n))
                    want = not any(
                        any(core(kept, n, times, j)[0]) for j in range(n + 1) if j not in wanted
                    )
                    found = two_levels(growth, n, list(row))
                    self.assertIs(found, want)
                    seen[want] += 1
        self.assertGreater(min(seen.values()), 50)

    def test_bounds(self):
        seen = equal = none = 0
        for growth in good_growths():
            kept = growth.kept
            for n in range(kept.top):
                slow = slowest(kept, n)
                rows = readings_of(n, kept.sizes[n])
                if kept.web.is_even and all(growth.ahead(place) for place in places_at(kept.web, n)):
                    rows += self.readings_by_levels(growth, n)
                for row in rows:
                    spread = variance(growth, n, row)
                    for k in range(1, kept.top - n + 1):
                        back = variance_back(growth, n, row, k)
                        if slow is None:
                            self.assertEqual((kept.sizes[n], spread, back), (1, Share(0), Share(0)))
                            none += 1
                            continue
                        bound = ratio(growth, n, k, slow) * spread
                        self.assertTrue(bound.at_least(back))
                        seen += 1
                        if kept.web.is_even:
                            self.assertIs(back == bound, two_levels(growth, n, row))
                            equal += back == bound
                            if back == spread:
                                self.assertEqual(spread, 0)
        self.assertGreater(seen, 150)
        self.assertGreater(equal, 40)
        self.assertGreater(none, 10)

    def readings_by_levels(self, growth, n):
        """Readings of which ahead * reading lies in the level 0 and the slowest one."""
        kept = growth.kept
        ahead = [growth.ahead(place) for place in places_at(kept.web, n)]
        whole = 1
        for one in ahead:
            whole *= one
        found = []
        for j in {0, slowest(kept, n)} - {None}:
            for row in pure_basis(kept.web, j)[:3]:
                found.append([whole * one // two for one, two in zip(lift(kept.web, j, row, n - j), ahead)])
        return found + [[3 * one - two for one, two in zip(found[0], found[-1])]]

    def test_single_levels(self):
        seen = 0
        for growth in growths():
            kept = growth.kept
            if growth.origin_rank or not kept.web.is_even:
                continue
            for n in range(kept.top + 1):
                if not kept.numbers.lively_to(n) or not all(growth.ahead(place) for place in places_at(kept.web, n)):
                    continue
                ahead = [growth.ahead(place) for place in places_at(kept.web, n)]
                whole = 1
                for one in ahead:
                    whole *= one
                rows = {
                    j: [whole * one // two for one, two in zip(lift(kept.web, j, pure_basis(kept.web, j)[0], n - j), ahead)]
                    for j in range(n + 1) if pure_basis(kept.web, j)
                }
                for k in range(kept.top - n + 1):
                    for j, row in rows.items():
                        self.assertEqual(
                            variance_back(growth, n, row, k),
                            ratio(growth, n, k, j) * variance(growth, n, row),
                        )
                    both = [sum(column) for column in zip(*rows.values())]
                    self.assertEqual(
                        value(variance_back(growth, n, both, k)),
                        sum(value(variance_back(growth, n, row, k)) for row in rows.values()),
                    )
                    seen += len(rows) > 1
        self.assertGreater(seen, 15)


class LikenessTest(Errors, unittest.TestCase):
    def test_sums(self):
        for growth in growths():
            kept = growth.kept
            for n in range(growth.origin_rank, kept.top + 1):
                met = [place for place in places_at(kept.web, n) if growth.share(place) != 0]
                for k in range(kept.top - n + 1):
                    shares = [value(one) for one in growth.shares(n + k)]
                    rows = {place: [value(one) for one in growth.chances(place, "u" * k)] for place in met}
                    for one in met:
                        for two in met:
                            want = sum(a * b / c for a, b, c in zip(rows[one], rows[two], shares) if c)
                            found = likeness(growth, list(one), two, k)
                            self.assertIs(type(found), Share)
                            self.assertEqual(value(found), want)
                        self.assertEqual(distance(growth, one, k), likeness(growth, one, one, k))

    def test_even_webs(self):
        seen = 0
        for growth in growths():
            kept, i = growth.kept, growth.origin_rank
            if not kept.web.is_even:
                continue
            for n in range(i, kept.top + 1):
                met = [place for place in places_at(kept.web, n) if growth.share(place) != 0]
                for k in range(kept.top - n + 1):
                    whole = kept.numbers.gains(i, n + k - i)
                    part = kept.numbers.gains(i, n - i) ** 2
                    word = "u" * k + "d" * k
                    for one in met:
                        far = distance(growth, one, k)
                        self.assertTrue(far.at_least(1))
                        self.assertIs(far == 1, growth.chances(one, "u" * k) == growth.shares(n + k))
                        self.assertGreaterEqual(
                            told_count(kept, one, word, one) * part, whole * growth.ahead(one) ** 2
                        )
                        for two in met:
                            told = Fraction(
                                told_count(kept, one, word, two) * part, whole * growth.ahead(one) * growth.ahead(two)
                            )
                            self.assertEqual(value(likeness(growth, one, two, k)), told)
                            ends = [{way[-1][1] if way else place[1] for way in slow_ways(kept.web, place, k)}
                                    for place in (one, two)]
                            self.assertIs(told == 0, not ends[0] & ends[1])
                            seen += 1
                    if i == 0 and len(met) == kept.sizes[n]:
                        steps = [b - a for a, b in zip((0,) + kept.sizes, kept.sizes)]
                        total = sum(value(growth.share(one) * distance(growth, one, k)) for one in met)
                        self.assertEqual(total, sum(
                            steps[j] * value(ratio(growth, n, k, j)) for j in range(n + 1)
                        ))
        self.assertGreater(seen, 400)

    def test_counts_above_the_top(self):
        for growth in growths():
            kept, i = growth.kept, growth.origin_rank
            if not kept.web.is_even or not all(r >= 0 for _, r in kept.numbers.pairs + (kept.numbers.tail,)):
                continue
            for n in range(i, kept.top + 1):
                for k in range(6):
                    for place in places_at(kept.web, n):
                        self.assertGreaterEqual(
                            told_count(kept, place, "u" * k + "d" * k, place) * kept.numbers.gains(i, n - i) ** 2,
                            kept.numbers.gains(i, n + k - i) * growth.ahead(place) ** 2,
                        )

    def test_refused(self):
        growth = Growth(Kept(Web.shapes(2) + chain(Numbers.steady(1, 1), 1, 2), Numbers.steady(1, 1)), (1, 1))
        shapes = Growth(Kept(Web.shapes(3), Numbers.steady(1, 1)), (0, 0))
        for call in (lambda g, place: distance(g, place, -1), lambda g, place: likeness(g, place, None, -1),
                     lambda g, place: likeness(g, (1, 1), place, -1) if g is growth else likeness(g, (1, 0), place, -1)):
            for wrong in (None, 5, (1,), (1, 0, 0)):
                self.refused(BadPlace, {"rank": -1, "place": wrong}, call, growth, wrong)
            self.refused(BadRank, {"rank": 4}, call, shapes, (4, 0))
            self.refused(BadPlace, {"rank": 2, "place": 2}, call, shapes, (2, 2))
            for place in ((0, 0), (1, 0), (2, 1)):
                self.refused(BadPlace, {"rank": place[0], "place": place[1]}, call, growth, place)
        # The place comes ahead of the other one, and both ahead of the steps.
        self.refused(BadPlace, {"rank": 1, "place": 0}, likeness, growth, (1, 0), (2, 0), -1)
        self.refused(BadPlace, {"rank": 2, "place": 2}, likeness, growth, (1, 1), (2, 2), -1)
        self.refused(BadPlace, {"rank": 3, "place": 1}, likeness, shapes, (2, 0), (3, 1), -1)
        for steps in (-1, True, None):
            self.refused(BadNumber, {"name": "steps"}, distance, shapes, (2, 0), steps)
            self.refused(BadNumber, {"name": "steps"}, likeness, shapes, (2, 0), (2, 1), steps)
        self.refused(Unseen, {"rank": 4}, distance, shapes, (2, 0), 2)
        self.refused(Unseen, {"rank": 4}, likeness, shapes, (2, 0), (2, 1), 2)
        self.assertEqual(distance(growth, (1, 1), 1), 1)


if __name__ == "__main__":
    unittest.main()
