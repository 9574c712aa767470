import random
import unittest
from fractions import Fraction
from math import prod

from upsanddowns.corners import grid
from upsanddowns.errors import (
    BadNumbers, BadPlace, BadRank, BadWord, NotFresh, NotPositive, Unseen,
)
from upsanddowns.growth import Growth
from upsanddowns.kept import Kept
from upsanddowns.makers import chain
from upsanddowns.normal import normal_row, told_count
from upsanddowns.numbers import Numbers
from upsanddowns.shares import Share
from upsanddowns.treating import treat
from upsanddowns.webs import Web
from upsanddowns.weights import weights

from tests.helpers import (
    Errors, growing_kept, growths_of, heights_of, places_at, places_of, reflected, slow_walks, slow_ways,
    small_kept, some_rules, stays, value, words_to,
)


def growths():
    return growths_of(growing_kept())


def grown(growth, steps):
    """Growth from the same origin in the web reflected so many times."""
    return Growth(reflected(growth.kept, steps), growth.place)


def may_grow(growth, steps):
    """True if the web can be reflected so often, stays small, and growth is told there."""
    kept = growth.kept
    sizes = list(kept.sizes)
    for n in range(kept.top, kept.top + steps):
        q, r = kept.pair_at(n)
        if r < 0:
            return False
        sizes.append(q * (sizes[n - 1] if n else 0) + r * sizes[n])
    i = growth.origin_rank
    gains = [kept.numbers.gain(i, k) for k in range(1, kept.top + steps - i + 1)]
    return max(sizes) <= 30 and min(gains, default=1) >= 1


def by_steps(growth, place, word):
    """The chances behind steps by the word, one step behind the other."""
    rank, row = place[0], {place[1]: Fraction(1)}
    for letter in word:
        later = {}
        for x, chance in row.items():
            steps = growth.step_up((rank, x)) if letter == "u" else growth.step_down((rank, x))
            for y, one in enumerate(steps):
                if not one.is_nought():
                    later[y] = later.get(y, 0) + chance * value(one)
        rank, row = rank + (1 if letter == "u" else -1), later
    return rank, row


class SharesTest(Errors, unittest.TestCase):
    def test_ways(self):
        seen = 0
        for growth in growths():
            kept, o = growth.kept, growth.place
            self.assertEqual(growth.origin_rank, o[0])
            for n, x in places_of(kept.web):
                k = n - o[0]
                ahead = told_count(kept, o, "u" * k, (n, x)) if k >= 0 else 0
                back = told_count(kept, (n, x), "d" * k, o) if k >= 0 else 0
                self.assertEqual((growth.ahead((n, x)), growth.back([n, x])), (ahead, back))
                self.assertIs(type(growth.ahead((n, x))), int)
                self.assertIs(type(growth.back((n, x))), int)
                share = growth.share((n, x))
                self.assertIs(type(share), Share)
                self.assertEqual(value(share), Fraction(ahead * back, kept.numbers.gains(o[0], k)) if k >= 0 else 0)
                self.assertEqual(growth((n, x)), share)
                seen += 1
        self.assertGreater(seen, 400)

    def test_ranks(self):
        for growth in growths():
            kept, i = growth.kept, growth.origin_rank
            for n in range(kept.top + 1):
                shares = growth.shares(n)
                self.assertIs(type(shares), tuple)
                self.assertEqual(shares, tuple(growth.share(place) for place in places_at(kept.web, n)))
                self.assertEqual(sum(value(one) for one in shares), 1 if n >= i else 0)

    def test_counted_walks(self):
        # Of all walks from o up to a rank and back, a share comes by each place.
        seen = 0
        for growth in growths():
            kept, o = growth.kept, growth.place
            for k in range(min(3, kept.top - o[0]) + 1):
                walks = [walk for walk in slow_walks(kept.web, o, "u" * k + "d" * k) if k == 0 or walk[-1][2] == o[1]]
                if len(walks) > 3000:
                    continue
                self.assertEqual(len(walks), kept.numbers.gains(o[0], k))
                tips = [walk[k - 1][2] if k else o[1] for walk in walks]
                for n, x in places_at(kept.web, o[0] + k):
                    self.assertEqual(value(growth.share((n, x))), Fraction(tips.count(x), len(walks)))
                    seen += 1
        self.assertGreater(seen, 150)

    def test_steps(self):
        for growth in growths():
            kept, i = growth.kept, growth.origin_rank
            for n, x in places_of(kept.web):
                if growth.back((n, x)) == 0:
                    continue
                if n < kept.top:
                    steps = growth.step_up((n, x))
                    self.assertIs(type(steps), tuple)
                    whole = kept.numbers.gain(i, n + 1 - i) * growth.back((n, x))
                    for y in range(kept.sizes[n + 1]):
                        want = Fraction(kept.web.ups[n][x][y] * growth.back((n + 1, y)), whole)
                        self.assertEqual(value(steps[y]), want)
                    self.assertEqual(sum(value(one) for one in steps), 1)
                if n > i:
                    steps = growth.step_down([n, x])
                    self.assertIs(type(steps), tuple)
                    for y in range(kept.sizes[n - 1]):
                        want = Fraction(kept.web.downs[n - 1][y][x] * growth.back((n - 1, y)), growth.back((n, x)))
                        self.assertEqual(value(steps[y]), want)
                    self.assertEqual(sum(value(one) for one in steps), 1)

    def test_fit(self):
        for growth in growths():
            kept, i = growth.kept, growth.origin_rank
            for n in range(i, kept.top):
                for y in range(kept.sizes[n + 1]):
                    self.assertEqual(value(growth.share((n + 1, y))), sum(
                        value(growth.share((n, x)) * growth.step_up((n, x))[y])
                        for x in range(kept.sizes[n]) if growth.back((n, x))
                    ))
                for x in range(kept.sizes[n]):
                    self.assertEqual(value(growth.share((n, x))), sum(
                        value(growth.share((n + 1, y)) * growth.step_down((n + 1, y))[x])
                        for y in range(kept.sizes[n + 1]) if growth.back((n + 1, y))
                    ))

    def test_sums_of_ways(self):
        for growth in growths():
            kept, i = growth.kept, growth.origin_rank
            web = kept.web
            for n in range(i, kept.top):
                gain = kept.numbers.gain(i, n + 1 - i)
                for x in range(web[n]):
                    self.assertEqual(
                        sum(web.ups[n][x][y] * growth.back((n + 1, y)) for y in range(web[n + 1])),
                        gain * growth.back((n, x)),
                    )
                    self.assertEqual(
                        sum(web.downs[n][x][y] * growth.ahead((n + 1, y)) for y in range(web[n + 1])),
                        gain * growth.ahead((n, x)),
                    )
                    for y in range(web[n + 1]):
                        if growth.back((n, x)) == 0 and growth.back((n + 1, y)) > 0:
                            self.assertEqual(web.ups[n][x][y], 0)
                        if growth.back((n + 1, y)) == 0 and growth.back((n, x)) > 0:
                            self.assertEqual(web.downs[n][x][y], 0)

    def test_exchanged(self):
        for growth in growths():
            other = Growth(growth.kept.exchanged(), growth.place)
            for place in places_of(growth.kept.web):
                self.assertEqual(growth.ahead(place), other.back(place))
                self.assertEqual(growth.back(place), other.ahead(place))
                self.assertEqual(growth.share(place), other.share(place))

    def test_weights(self):
        seen = 0
        for growth in growths():
            rows = weights(growth.kept.web)
            if rows is not None:
                n, z = growth.place
                for m, x in places_of(growth.kept.web):
                    seen += 1
                    self.assertEqual(growth.ahead((m, x)) * rows[m][x], growth.back((m, x)) * rows[n][z])
        self.assertGreater(seen, 300)

    def test_origins_above_and_noughts(self):
        late = [growth for growth in growths() if growth.origin_rank > 0]
        self.assertGreater(len(late), 5)
        nought = [
            growth for growth in growths()
            if any(growth.back((n, x)) == 0 for n, x in places_of(growth.kept.web) if n > growth.origin_rank)
        ]
        self.assertGreater(len(nought), 5)
        two = Growth(Kept(Web.shapes(2) + chain(Numbers.steady(1, 1), 1, 2), Numbers.steady(1, 1)), (1, 1))
        self.assertEqual([str(one) for one in two.shares(0) + two.shares(1)], ["0/1", "0/1", "1/1"])
        self.assertEqual((two.ahead((1, 0)), two.back((1, 0)), two.back((0, 0))), (0, 0, 0))


class MadeTest(Errors, unittest.TestCase):
    def test_refused(self):
        one = Numbers.steady(1, 1)
        kept = Kept(Web.shapes(3), one)
        for wrong in (None, 5, (1,), (0, 0, 0), "00"):
            self.refused(BadPlace, {"rank": -1, "place": wrong}, Growth, kept, wrong)
        for rank in (-1, 4, True, None):
            self.refused(BadRank, {"rank": rank}, Growth, kept, (rank, 0))
        self.refused(BadPlace, {"rank": 2, "place": 2}, Growth, kept, (2, 2))
        self.refused(NotFresh, {"rank": 2, "place": 1}, Growth, kept, (2, 1))
        falling = Kept(Web.subsets(3).empty_rank(), Numbers.falling(3))
        self.refused(NotPositive, {"rank": 4}, Growth, falling, (0, 0))
        self.refused(NotPositive, {"rank": 3}, Growth, falling, (1, 0))
        self.assertEqual(str(Growth(falling.cut(3), (0, 0)).share((3, 0))), "1/1")
        # The gain is looked at ahead of whether the place is fresh.
        self.refused(NotPositive, {"rank": 3}, Growth, falling.cut(3), (1, 0))
        self.refused(NotFresh, {"rank": 1, "place": 0}, Growth, falling.cut(2), (1, 0))
        ended = Kept(Web([[[0]]]), Numbers([(1, 0)]))
        self.refused(NotPositive, {"rank": 1}, Growth, ended, (0, 0))
        self.assertEqual(Growth(ended, (1, 0)).ahead((1, 0)), 1)

    def test_attributes(self):
        kept = Kept(Web.shapes(3), Numbers.steady(1, 1))
        place = [0, 0]
        growth = Growth(kept, place)
        place[0] = 3
        self.assertEqual((growth.kept, growth.place, growth.origin_rank), (kept, (0, 0), 0))
        self.assertIs(type(growth.place), tuple)

    def test_calls_refused(self):
        kept = Kept(Web.shapes(2) + chain(Numbers.steady(1, 1), 1, 2), Numbers.steady(1, 1))
        growth = Growth(kept, (1, 1))
        for call in (growth.ahead, growth.back, growth.share, growth, growth.step_up, growth.step_down):
            for wrong in (None, 5, (1,), (1, 0, 0)):
                self.refused(BadPlace, {"rank": -1, "place": wrong}, call, wrong)
            self.refused(BadRank, {"rank": 3}, call, (3, 0))
            self.refused(BadPlace, {"rank": 1, "place": 2}, call, (1, 2))
            self.refused(BadPlace, {"rank": 1, "place": True}, call, (1, True))
        for rank in (-1, 3, True, None):
            self.refused(BadRank, {"rank": rank}, growth.shares, rank)
        for place in ((0, 0), (1, 0), (2, 0), (2, 1)):
            self.refused(BadPlace, {"rank": place[0], "place": place[1]}, growth.step_up, place)
            self.refused(BadPlace, {"rank": place[0], "place": place[1]}, growth.step_down, place)
        self.refused(BadPlace, {"rank": 1, "place": 1}, growth.step_down, (1, 1))
        self.refused(Unseen, {"rank": 3}, growth.step_up, (2, 2))
        self.assertEqual([str(one) for one in growth.step_up((1, 1))], ["0/1", "0/1", "1/1"])
        self.assertEqual([str(one) for one in growth.step_down((2, 2))], ["0/1", "1/1"])


class ChanceTest(Errors, unittest.TestCase):
    def test_steps_one_behind_the_other(self):
        seen = 0
        for growth in growths()[::2]:
            web, i = growth.kept.web, growth.origin_rank
            for place in places_of(web):
                if growth.back(place) == 0:
                    continue
                for word in words_to(3) + ["uudd", "uddu", "dudu"]:
                    if not stays(web, place[0], word) or min(heights_of(place[0], word)) < i:
                        continue
                    last, row = by_steps(growth, place, word)
                    found = growth.chances(list(place), word)
                    self.assertIs(type(found), tuple)
                    self.assertEqual([value(one) for one in found], [row.get(y, 0) for y in range(web[last])])
                    self.assertEqual(sum(value(one) for one in found), 1)
                    for other in places_of(web):
                        told = growth.chance(place, word, other)
                        self.assertEqual(value(told), row.get(other[1], 0) if other[0] == last else 0)
                        seen += 1
        self.assertGreater(seen, 5000)

    def test_told_counts(self):
        for growth in growths()[::3]:
            kept, i = growth.kept, growth.origin_rank
            for place in places_of(kept.web):
                for word in ("", "u", "uu", "ud", "uud", "du", "uuddu"):
                    row = heights_of(place[0], word)
                    if growth.back(place) == 0 or min(row) < i or row[-1] > kept.top:
                        continue
                    gains = [kept.numbers.gain(i, m + 1 - i) for m, letter in zip(row, word) if letter == "u"]
                    if any(gain < 1 for gain in gains):
                        continue
                    for other in places_at(kept.web, row[-1]):
                        want = Fraction(
                            told_count(kept, place, word, other) * growth.back(other), growth.back(place) * prod(gains)
                        )
                        self.assertEqual(value(growth.chance(place, word, other)), want)

    def test_above_the_top(self):
        seen = 0
        for growth in growths():
            if not may_grow(growth, 2) or seen > 6000:
                continue
            more = grown(growth, 2)
            for place in places_of(growth.kept.web):
                self.assertEqual(growth.share(place), more.share(place))
                if growth.back(place) == 0:
                    continue
                for word in ("ud", "uud", "uudd", "udud", "duud", "uuddu"):
                    row = heights_of(place[0], word)
                    if min(row) < growth.origin_rank or max(row) > more.kept.top:
                        continue
                    for other in places_of(growth.kept.web):
                        self.assertEqual(growth.chance(place, word, other), more.chance(place, word, other))
                        seen += max(row) > growth.kept.top
                    if row[-1] <= growth.kept.top:
                        self.assertEqual(growth.chances(place, word), more.chances(place, word))
        self.assertGreater(seen, 500)

    def test_noughts(self):
        seen = 0
        for growth in growths():
            for place in places_of(growth.kept.web):
                if growth.back(place) > 0:
                    for other in places_at(growth.kept.web, place[0]):
                        told = growth.chance(place, "ud", other) if place[0] < growth.kept.top else Share(0)
                        if growth.back(other) == 0:
                            self.assertTrue(told.is_nought())
                            seen += 1
        self.assertGreater(seen, 50)

    def test_refused(self):
        kept = Kept(Web.shapes(3), Numbers([(1, 1)] * 3 + [(1, -3), (1, -3)]))
        growth = Growth(kept, (0, 0))
        late = Growth(Kept(Web.shapes(3) >> 1, Numbers([(1, 5)] + [(1, 1)] * 3)), (1, 0))
        for call in (lambda *args: growth.chance(*args, None), growth.chances):
            self.refused(BadPlace, {"rank": -1, "place": 7}, call, 7, None)
            self.refused(BadRank, {"rank": 4}, call, (4, 0), None)
            self.refused(BadPlace, {"rank": 2, "place": 2}, call, (2, 2), None)
            self.refused(BadWord, {"at": -1}, call, (1, 0), None)
            self.refused(BadWord, {"at": 2}, call, (1, 0), "ddx")
            self.refused(BadWord, {"at": 1}, call, (1, 0), "ddd")
            self.refused(BadWord, {"at": 0}, call, (0, 0), "du")
        for call in (lambda *args: late.chance(*args, None), late.chances):
            self.refused(BadWord, {"at": 3}, call, (2, 0), "udddu")
            self.refused(BadPlace, {"rank": 0, "place": 0}, late.chances, (0, 0), None)
        beside = Growth(Kept(Web.shapes(2) + chain(Numbers.steady(1, 1), 1, 2), Numbers.steady(1, 1)), (1, 1))
        self.refused(BadPlace, {"rank": 2, "place": 0}, beside.chance, (2, 0), None, None)
        self.refused(BadPlace, {"rank": -1, "place": None}, growth.chance, (1, 0), "uuu", None)
        self.refused(BadRank, {"rank": 4}, growth.chance, (1, 0), "uuu", (4, 0))
        self.refused(BadPlace, {"rank": 1, "place": 1}, growth.chance, (1, 0), "uuu", (1, 1))
        # The gain to rank 4 is 0, also where the words end at other ranks.
        self.refused(NotPositive, {"rank": 4}, growth.chance, (1, 0), "uuu", (1, 0))
        self.refused(NotPositive, {"rank": 4}, growth.chance, (1, 0), "uuud", (3, 0))
        self.refused(NotPositive, {"rank": 4}, growth.chance, (3, 0), "uudd", (3, 0))
        self.refused(NotPositive, {"rank": 4}, growth.chances, (3, 0), "ud")
        self.refused(Unseen, {"rank": 4}, growth.chances, (3, 0), "u")
        self.refused(Unseen, {"rank": 5}, growth.chances, (3, 0), "uuud")
        self.assertEqual(growth.chance((1, 0), "uu", (2, 0)), 0)
        # The share of what is told without Unseen.
        one = Growth(Kept(Web.shapes(2), Numbers.steady(1, 1)), (0, 0))
        self.assertEqual(str(one.chance((2, 0), "uudd", (2, 1))), "5/12")
        self.assertEqual(one.chance((2, 0), "u", (2, 0)), 0)

    def test_back_again(self):
        # The sum over a rank, told by sizes and vals.
        seen = 0
        for growth in growths():
            kept = growth.kept
            if growth.origin_rank > 0:
                continue
            for n in range(kept.top + 1):
                if not all(growth.back(place) for place in places_at(kept.web, n)):
                    continue
                for word in words_to(6):
                    if word.count("u") == word.count("d") and stays(kept.web, n, word):
                        told = sum(value(growth.chance(place, word, place)) for place in places_at(kept.web, n))
                        steps = [b - a for a, b in zip((0,) + kept.sizes, kept.sizes)]
                        want = Fraction(sum(
                            steps[j] * kept.numbers.val(j, n, word) for j in range(n + 1)
                        ), kept.numbers.val(0, n, word))
                        self.assertEqual(told, want)
                        seen += 1
        self.assertGreater(seen, 200)


class FillingsTest(Errors, unittest.TestCase):
    def test_marks(self):
        seen = 0
        for kept in small_kept():
            for growth in growths_of([kept]):
                i = growth.origin_rank
                for rule in some_rules(kept, 3):
                    for place in places_of(kept.web):
                        for word in ("u", "ud", "du", "uud", "udu", "udud", "uudd", "duud"):
                            n = place[0]
                            if growth.back(place) == 0 or not stays(kept.web, n, word):
                                continue
                            if min(heights_of(n, word)) < i:
                                continue
                            self.check(growth, rule, place, word)
                            seen += 1
        self.assertGreater(seen, 300)

    def check(self, growth, rule, place, word):
        kept, i, n = growth.kept, growth.origin_rank, place[0]
        row = heights_of(n, word)
        whole = prod(kept.numbers.gain(i, m + 1 - i) for m, letter in zip(row, word) if letter == "u")
        told = {}
        for walk in slow_walks(kept.web, place, word):
            chance = Fraction(growth.back((row[-1], walk[-1][2])), growth.back(place) * whole)
            if chance:
                marks = treat(rule, place, word, walk).filling.many_marks
                told[marks] = told.get(marks, 0) + chance
        want = {}
        for c, entry in enumerate(normal_row(kept.numbers, word, n)):
            t, s = word.count("d") - c, word.count("u") - c
            if t <= n - i:
                gains = [kept.numbers.gain(i, n - i - t + at) for at in range(1, s + 1)]
                want[c] = Fraction(entry * prod(gains), whole)
        self.assertEqual({c: one for c, one in want.items() if one}, told)
        self.assertEqual(sum(want.values()), 1)

    def test_corners(self):
        seen = 0
        for kept in small_kept():
            for growth in growths_of([kept]):
                o, i = growth.place, growth.origin_rank
                for rule in some_rules(kept, 4):
                    for k in range(min(3, kept.top - i) + 1):
                        walks = [
                            walk for walk in slow_walks(kept.web, o, "u" * k + "d" * k)
                            if k == 0 or walk[-1][2] == o[1]
                        ]
                        if len(walks) > 100:
                            continue
                        grids = [grid(rule, o, walk, k) for walk in walks]
                        for s in range(k + 1):
                            for t in range(k + 1):
                                met = [one[s][t] for one in grids]
                                for h in range(k + 1):
                                    kin = [place for place in met if place[0] == i + h]
                                    for z in places_at(kept.web, i + h) if kin else []:
                                        seen += 1
                                        self.assertEqual(Fraction(kin.count(z), len(kin)), value(growth.share(z)))
                        for z in places_at(kept.web, i + k):
                            for way in slow_ways(kept.web, o, k):
                                if (way[-1][1] if way else o[1]) == z[1]:
                                    same = [w for w in walks if tuple(one[1:] for one in w[:k]) == way]
                                    self.assertEqual(len(same), growth.back(z))
        self.assertGreater(seen, 400)


class DrawnTest(Errors, unittest.TestCase):
    def test_parts(self):
        seen = 0
        for growth in growths():
            kept, (i, x) = growth.kept, growth.place
            dice = random.Random(kept.top)
            for _ in range(6):
                row = [dice.randint(0, 10 ** 6) for _ in range(kept.top - i)]
                way = growth.drawn_way(row)
                self.assertIs(type(way), tuple)
                at, want = (i, x), [(i, x)]
                for k, one in enumerate(row):
                    n = i + k
                    rest = one % (kept.numbers.gain(i, k + 1) * growth.back(at))
                    laid = [
                        y for y in range(kept.sizes[n + 1])
                        for _ in range(kept.web.ups[n][at[1]][y] * growth.back((n + 1, y)))
                    ]
                    at = (n + 1, laid[rest])
                    want.append(at)
                    seen += 1
                self.assertEqual(way, tuple(want))
        self.assertGreater(seen, 300)

    def test_all_draws(self):
        # Taken over all integers of a round, each step leads to each place as often as its chance tells.
        for growth in growths()[:8]:
            kept, (i, x) = growth.kept, growth.place
            if kept.top == i:
                continue
            whole = kept.numbers.gain(i, 1)
            found = [growth.drawn_way([one] + [0] * (kept.top - i - 1))[1][1] for one in range(whole)]
            self.assertEqual(found, sorted(found))
            for y, chance in enumerate(growth.step_up((i, x))):
                self.assertEqual(Fraction(found.count(y), whole), value(chance))

    def test_edges(self):
        alone = Growth(Kept(Web([], sizes=[2]), Numbers([])), (0, 1))
        self.assertEqual(alone.drawn_way([]), ((0, 1),))
        self.assertEqual(alone.shares(0), (Share(0), Share(1)))
        great = Growth(Kept(Web([[[10 ** 12]]], downs=[[[10 ** 12]]]), Numbers([(1, 10 ** 24)])), (0, 0))
        self.assertEqual(great.drawn_way([10 ** 40]), ((0, 0), (1, 0)))

    def test_refused(self):
        growth = Growth(Kept(Web.shapes(3), Numbers.steady(1, 1)), (0, 0))
        for row in (None, 5, "000", {}):
            self.refused(BadNumbers, {"at": -1}, growth.drawn_way, row)
        for wrong in (-1, True, None, "1"):
            self.refused(BadNumbers, {"at": 1}, growth.drawn_way, [0, wrong])
        self.refused(BadNumbers, {"at": 3}, growth.drawn_way, [0, 0, 0, 0])
        self.refused(BadNumbers, {"at": 3}, growth.drawn_way, [0, 0, 0, -1, -1])
        self.refused(BadNumbers, {"at": 2}, growth.drawn_way, [0, 0])
        self.refused(BadNumbers, {"at": 0}, growth.drawn_way, [])


class ReflectedTest(Errors, unittest.TestCase):
    def test_copies(self):
        seen = 0
        for growth in growths():
            if not may_grow(growth, 1):
                continue
            kept, i = growth.kept, growth.origin_rank
            n, k = kept.top, kept.top - i
            q, r = kept.pair_at(n)
            more = grown(growth, 1)
            below = places_at(kept.web, n - 1) if n else []
            want = [value(growth.share(z)) * kept.numbers.gain(i, k) for z in below] * q
            want += [value(growth.share(x)) for x in places_at(kept.web, n)] * r
            gain = kept.numbers.gain(i, k + 1)
            self.assertEqual([value(one) for one in more.shares(n + 1)], [one / gain for one in want])
            seen += 1
        self.assertGreater(seen, 10)


if __name__ == "__main__":
    unittest.main()
