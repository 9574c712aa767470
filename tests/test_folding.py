import random
import unittest
from fractions import Fraction

from upsanddowns.closed import sizes_beneath
from upsanddowns.corners import corner_ranks
from upsanddowns.errors import BadNumber, BadParting, BadRank, BadReading, NotBalanced, NotFair, Unseen
from upsanddowns.folding import folded, folded_kept, folded_weights, lot_keeps, lot_sums
from upsanddowns.gates import gate, ways_apart
from upsanddowns.growth import Growth
from upsanddowns.judging import above, below, keeps
from upsanddowns.kept import Kept
from upsanddowns.leading import lead
from upsanddowns.levels import parts, pures
from upsanddowns.living import alive
from upsanddowns.lotsapart import greatest_apart
from upsanddowns.numbers import Numbers
from upsanddowns.partings import Parting, coarsest, is_fair
from upsanddowns.rules import Rule
from upsanddowns.spreads import ratio, variance, variance_back
from upsanddowns.treating import treat
from upsanddowns.walks import count
from upsanddowns.webs import Web
from upsanddowns.weights import weights

from tests.helpers import (
    Errors, all_kept, all_tuples, any_webs, fair_partings, falling_kept, growing_kept, heights_of, origins_of,
    places_at, random_web, readings_of, slow_walks, small_kept, stays, value, words_to,
)


def folds(kepts):
    """Kept webs with a fair parting and the folded Kept."""
    return [(kept, one, folded_kept(kept, one)) for kept in kepts for one in fair_partings(kept.web)]


def some_webs():
    """Webs that need not keep anything, with places alike in them."""
    return any_webs() + [
        Web([[[1, 1, 1]], [[1], [1], [1]]], downs=[[[2, 2, 2]], [[1], [1], [1]]]),
        Web([[[1, 1, 2, 2]], [[1, 0], [0, 1], [1, 1], [1, 1]]]), Web([[[1, 1]], [[1, 1], [1, 1]], [[3], [3]]]),
        Web([[[0, 1], [0, 1]]], downs=[[[1, 1], [0, 2]]]),
    ]


class FoldedTest(Errors, unittest.TestCase):
    def test_tables(self):
        merged = 0
        for web in some_webs() + [kept.web for kept in all_kept()]:
            for parting in fair_partings(web):
                found = folded(web, parting)
                self.assertIs(type(found), Web)
                self.assertEqual(found.sizes, parting.lot_sizes())
                merged += found.sizes != web.sizes
                for n in range(web.top):
                    for k, low in enumerate(parting.lots(n)):
                        for m, high in enumerate(parting.lots(n + 1)):
                            for x in low:
                                self.assertEqual(found.ups[n][k][m], sum(web.ups[n][x][y] for y in high))
                            for y in high:
                                self.assertEqual(found.downs[n][k][m], sum(web.downs[n][x][y] for x in low))
        self.assertGreater(merged, 30)
        single = Web.shapes(4)
        self.assertEqual(folded(single, Parting.single(single.sizes)), single)

    def test_counts(self):
        seen = 0
        for web in some_webs() + [kept.web for kept in all_kept()[::2]]:
            for parting in fair_partings(web)[1:]:
                fold = folded(web, parting)
                for n in range(web.top + 1):
                    for word in words_to(4):
                        if not stays(web, n, word):
                            continue
                        last = heights_of(n, word)[-1]
                        for k, low in enumerate(parting.lots(n)):
                            for m, high in enumerate(parting.lots(last)):
                                told = count(fold, (n, k), word, (last, m))
                                for x in low[:2]:
                                    self.assertEqual(told, sum(count(web, (n, x), word, (last, y)) for y in high))
                                    seen += 1
        self.assertGreater(seen, 3000)

    def test_same_numbers(self):
        for kept, parting, fold in folds(all_kept()):
            self.assertIs(type(fold), Kept)
            self.assertEqual(fold.numbers, kept.numbers)
            self.assertEqual(fold.web, folded(kept.web, parting))

    def test_folded_twice(self):
        seen = 0
        for web in some_webs() + [kept.web for kept in all_kept()]:
            for parting in fair_partings(web):
                fold = folded(web, parting)
                for second in fair_partings(fold, 5):
                    rows = [
                        [[x for k in lot for x in parting.lots(n)[k]] for lot in lots]
                        for n, lots in enumerate(second.rows)
                    ]
                    whole = Parting(rows)
                    self.assertIs(is_fair(web, whole), True)
                    self.assertTrue(parting.within(whole))
                    self.assertEqual(folded(web, whole), folded(fold, second))
                    seen += second != Parting.single(fold.sizes) and parting != Parting.single(web.sizes)
        self.assertGreater(seen, 20)

    def test_keeping(self):
        seen = {True: 0, False: 0}
        gained = 0
        for web in some_webs() + [random_web(seed, [1, 3, 2], 1) for seed in range(20)]:
            for parting in fair_partings(web):
                for n in range(web.top):
                    high, low = above(web, n), below(web, n)
                    for q in range(3):
                        for r in range(-1, 4):
                            want = all(
                                sum(high[x][y] - q * low[x][y] for y in lot) == (r if x in lot else 0)
                                for lot in parting.lots(n) for x in range(web[n])
                            )
                            found = lot_keeps(web, parting, n, q, r)
                            self.assertIs(found, want)
                            self.assertIs(found, keeps(folded(web, parting), n, q, r))
                            seen[want] += 1
                            gained += want and not keeps(web, n, q, r)
        self.assertGreater(min(seen.values()), 100)
        self.assertGreater(gained, 3)
        # Two places beneath one place, one strand each, in one lot.
        roof = Web([[[1], [1]]])
        self.assertIs(lot_keeps(roof, Parting.flat([2, 1]), 0, 1, 2), True)
        self.assertIs(keeps(roof, 0, 1, 2), False)

    def test_refused(self):
        web = Web([[[1, 1]], [[1], [2]]], downs=[[[1, 2]], [[1], [1]]])
        kept = Kept(Web.subsets(2), Numbers.falling(2))
        flat = Parting.flat([1, 2, 1])
        short = Parting.flat([1, 2])
        fault = {"rank": 1, "first": 0, "second": 1}
        self.refused(NotFair, fault, folded, web, flat)
        self.refused(NotFair, fault, lot_keeps, web, flat, 9, -1, None)
        self.refused(BadParting, {"rank": 2}, folded, web, short)
        self.refused(BadParting, {"rank": 2}, folded_kept, kept, short)
        self.refused(BadParting, {"rank": 2}, lot_keeps, web, short, 9, -1, None)
        uneven = Kept(Web([[[1, 2]]]), Numbers([(1, 5)]))
        self.refused(NotFair, {"rank": 1, "first": 0, "second": 1}, folded_kept, uneven, Parting.flat([1, 2]))
        good = Parting.single([1, 2, 1])
        for rank in (-1, 3, True, None):
            self.refused(BadRank, {"rank": rank}, lot_keeps, web, good, rank, -1, None)
        self.refused(BadNumber, {"name": "q"}, lot_keeps, web, good, 2, -1, None)
        self.refused(BadNumber, {"name": "r"}, lot_keeps, web, good, 2, 1, None)
        self.refused(Unseen, {"rank": 3}, lot_keeps, web, good, 2, 1, 1)


class SumsTest(Errors, unittest.TestCase):
    def test_sums(self):
        parting = Parting([[[0, 2], [1]], [], [[1], [0]]])
        self.assertEqual(lot_sums(parting, 0, [5, -7, 1]), (6, -7))
        self.assertEqual(lot_sums(parting, 1, []), ())
        self.assertEqual(lot_sums(parting, 2, (3, 4)), (3, 4))
        for rank in (-1, 3, True, None):
            self.refused(BadRank, {"rank": rank}, lot_sums, parting, rank, None)
        for wrong in (None, 5, [1, 2], [1, 2, 3, 4], [1, 2, True], [1, 2, None], "abc"):
            self.refused(BadReading, {"rank": 0}, lot_sums, parting, 0, wrong)

    def test_parts(self):
        # Part i of the lot sums is the lot sums of part i.
        seen = 0
        for kept, parting, fold in folds(all_kept()):
            for n in range(kept.top + 1):
                if not kept.numbers.lively_to(n):
                    continue
                for reading in readings_of(n, kept.sizes[n])[-3:]:
                    told = parts(fold, n, lot_sums(parting, n, reading))
                    for (row, den), (line, whole) in zip(told, parts(kept, n, reading)):
                        want = [Fraction(one, whole) for one in lot_sums(parting, n, line)]
                        self.assertEqual([Fraction(one, den) for one in row], want)
                        seen += 1
        self.assertGreater(seen, 500)


class WeightsTest(Errors, unittest.TestCase):
    def test_weights(self):
        dice = random.Random(5)
        seen = 0
        for web in some_webs() + [kept.web for kept in all_kept()]:
            told = weights(web)
            if told is None:
                continue
            for parting in fair_partings(web):
                fold = folded(web, parting)
                found = folded_weights(web, parting, told)
                self.assertEqual(found, weights(fold))
                self.assertTrue(all_tuples(found))
                scale = dice.randint(2, 9)
                more = [[scale * one for one in row] for row in told]
                self.assertEqual(folded_weights(web, parting, more), found)
                # Proportional to 1 / (the sum of 1 / weight), tie by tie.
                rates = [
                    [1 / sum(Fraction(1, told[n][x]) for x in lot) for lot in lots]
                    for n, lots in enumerate(parting.rows)
                ]
                for n in range(web.top):
                    for k in range(fold[n]):
                        for m in range(fold[n + 1]):
                            if fold.ups[n][k][m]:
                                self.assertEqual(rates[n][k] * found[n + 1][m], rates[n + 1][m] * found[n][k])
                                seen += 1
        self.assertGreater(seen, 200)

    def test_pieces_weighed_apart(self):
        # Weights that are not least in one piece, and lots with places of both pieces.
        web = Web([[[1, 0], [0, 1]]], downs=[[[2, 0], [0, 2]]])
        parting = Parting.flat([2, 2])
        for rows in (((1, 1), (2, 2)), ((1, 5), (2, 10))):
            self.assertEqual(folded_weights(web, parting, rows), ((1,), (2,)))

    def test_refused(self):
        web = Web([[[1, 1]]], downs=[[[2, 4]]])
        good = weights(web)
        self.assertEqual(good, ((1,), (2, 4)))
        short, flat, single = Parting.flat([1]), Parting.flat([1, 2]), Parting.single([1, 2])
        self.refused(BadParting, {"rank": 1}, folded_weights, web, short, None)
        for rows in (None, 5, "ab"):
            self.refused(BadReading, {"rank": -1}, folded_weights, web, flat, rows)
        for row in (None, (), (2,), (2, 0), (2, True), (2, -4), (2, 4, 4)):
            self.refused(BadReading, {"rank": 1}, folded_weights, web, flat, [(1,), row])
        self.refused(BadReading, {"rank": 1}, folded_weights, web, flat, [(1,)])
        self.refused(BadReading, {"rank": 2}, folded_weights, web, flat, [(1,), (2, 4), ()])
        self.refused(NotBalanced, {"rank": 0}, folded_weights, web, flat, [(1,), (2, 2)])
        self.refused(NotFair, {"rank": 1, "first": 0, "second": 1}, folded_weights, web, flat, good)
        self.assertEqual(folded_weights(web, single, good), good)


class LivelyTest(Errors, unittest.TestCase):
    def test_lots_do_not_fall(self):
        seen = 0
        for kept in all_kept():
            found = fair_partings(kept.web)
            for parting in found:
                lots = parting.lot_sizes()
                steps = [b - a for a, b in zip((0,) + lots, lots)]
                for n in range(kept.top + 1):
                    gains = [kept.numbers.gain(i, n - i) for i in range(n + 1)]
                    for c in set(gains):
                        self.assertGreaterEqual(sum(step for step, gain in zip(steps, gains) if gain == c), 0)
                    if kept.numbers.lively_to(n):
                        self.assertTrue(all(step >= 0 for step in steps[:n + 1]))
                        for other in found:
                            if parting.within(other):
                                less = [a - b for a, b in zip(lots, other.lot_sizes())][:n + 1]
                                self.assertEqual(less, sorted(less))
                                seen += parting != other
        self.assertGreater(seen, 50)

    def test_sizes_beneath(self):
        seen = 0
        for kept, parting, fold in folds(all_kept()):
            for n in range(kept.top):
                if kept.numbers.lively_to(n) and all(kept.pair_at(m)[0] >= 1 for m in range(1, n + 1)):
                    self.assertEqual(sizes_beneath(kept.numbers, n, fold.above(n)), parting.lot_sizes()[:n + 1])
                    seen += 1
        self.assertGreater(seen, 60)

    def test_lots_apart_and_ways(self):
        for kept, parting, fold in folds(all_kept()):
            if not kept.lively:
                continue
            lots = parting.lot_sizes()
            self.assertEqual(len(greatest_apart(fold.web)), lots[-1])
            for n in range(kept.top + 1):
                whole = list(range(lots[n]))
                self.assertEqual(len(ways_apart(fold.web, n, whole, kept.top - n)), lots[n])
                self.assertEqual(len(gate(fold.web, n, whole, kept.top - n)), lots[n])
                # Each way apart of the folded web has an up-way of the web in the same lots.
                for start, way in ways_apart(fold.web, n, whole, kept.top - n):
                    here = {parting.lots(n)[start][0]}
                    for at, (_, number) in enumerate(way):
                        lot = parting.lots(n + at + 1)[number]
                        here = {y for x in here for y in lot if kept.web.ups[n + at][x][y]}
                        self.assertTrue(here)

    def test_falling(self):
        for kept, m in falling_kept():
            for parting in fair_partings(kept.web):
                lots = parting.lot_sizes()
                for i in range(m + 1):
                    self.assertEqual(lots[i], lots[m - i])
                for i in range(1, m + 1):
                    if 2 * i <= m + 1:
                        self.assertLessEqual(lots[i - 1], lots[i])

    def test_pures(self):
        balanced = 0
        for kept, parting, fold in folds(all_kept()):
            for n in range(kept.top + 1):
                if kept.numbers.lively_to(n):
                    self.assertLessEqual(pures(fold.web, n), pures(kept.web, n))
            if weights(kept.web) is not None:
                balanced += 1
                for n in range(kept.top + 1):
                    self.assertLessEqual(pures(fold.web, n), pures(kept.web, n))
                    living = [i for i in range(n + 1) if alive(kept.numbers, i, n)]
                    self.assertEqual(parting.lot_sizes()[n], sum(pures(fold.web, i) for i in living))
        self.assertGreater(balanced, 20)


class GrowthTest(Errors, unittest.TestCase):
    def origins(self):
        """Growths from origins that are lots of fair partings, with the growth in the folded web."""
        found = []
        for kept, parting, fold in folds(growing_kept()):
            for n, z in origins_of(kept):
                if (z,) in parting.lots(n):
                    growth = Growth(kept, (n, z))
                    found.append((growth, parting, Growth(fold, (n, parting.lot_of(n, z)))))
        return found

    def test_shares_and_chances(self):
        seen = 0
        for growth, parting, fold in self.origins():
            kept = growth.kept
            for n in range(kept.top + 1):
                for k, lot in enumerate(parting.lots(n)):
                    self.assertEqual(value(fold.share((n, k))), sum(value(growth.share((n, x))) for x in lot))
                    for x in lot:
                        if n == kept.top or growth.back((n, x)) == 0:
                            continue
                        steps, lots = growth.step_up((n, x)), fold.step_up((n, k))
                        for number, high in enumerate(parting.lots(n + 1)):
                            self.assertEqual(value(lots[number]), sum(value(steps[y]) for y in high))
                            seen += 1
        self.assertGreater(seen, 500)

    def test_not_a_lot_of_its_own(self):
        kept = Kept(Web.shapes(2) + Web.shapes(2), Numbers.steady(1, 1))
        parting = coarsest(kept.web, Parting.flat(kept.sizes))
        self.assertEqual(parting.lots(0), ((0, 1),))
        self.assertEqual(Growth(folded_kept(kept, parting), (0, 0)).origin_rank, 0)

    def test_leading(self):
        seen = 0
        for kept in small_kept():
            for parting in fair_partings(kept.web):
                fold = folded_kept(kept, parting)
                for n, z in origins_of(kept):
                    if (z,) not in parting.lots(n):
                        continue
                    o, lot = (n, z), (n, parting.lot_of(n, z))
                    for k in range(min(2, kept.top - n) + 1):
                        word = "u" * k + "d" * k
                        walks = [one for one in slow_walks(kept.web, o, word) if k == 0 or one[-1][2] == z]
                        others = {one for one in slow_walks(fold.web, lot, word) if k == 0 or one[-1][2] == lot[1]}
                        self.assertEqual(len(walks), kept.numbers.gains(n, k))
                        led = [lead(Rule(kept), Rule(fold), o, lot, one, k) for one in walks]
                        self.assertEqual(set(led), others)
                        self.assertEqual(len(led), len(others))
                        for one, two in zip(walks, led):
                            self.assertEqual(
                                corner_ranks(treat(Rule(kept), o, word, one).filling),
                                corner_ranks(treat(Rule(fold), lot, word, two).filling),
                            )
                            seen += 1
        self.assertGreater(seen, 50)

    def test_spreads(self):
        seen = equal = 0
        for growth, parting, fold in self.origins():
            kept = growth.kept
            pairs = [kept.pair_at(n) for n in range(kept.top + 1)]
            if growth.place != (0, 0) or not kept.web.is_even or not kept.numbers.is_positive:
                continue
            if any(q < 1 for q, _ in pairs) or kept.sizes[0] != 1:
                continue
            lots = parting.lot_sizes()
            for n in range(kept.top):
                if not all(growth.ahead(place) for place in places_at(kept.web, n)):
                    continue
                rising = [j for j in range(1, n + 1) if lots[j] > lots[j - 1]]
                for values in readings_of(n, lots[n]):
                    reading = [values[parting.lot_of(n, x)] for x in range(kept.sizes[n])]
                    spread = value(variance(growth, n, reading))
                    if not rising:
                        self.assertEqual(spread, 0)
                        continue
                    times = [growth.ahead((n, x)) * one for x, one in enumerate(reading)]
                    told = parts(kept, n, times)
                    plain = not any(any(row) for j, (row, _) in enumerate(told) if j not in (0, rising[0]))
                    for k in range(1, kept.top - n + 1):
                        bound = value(ratio(growth, n, k, rising[0])) * spread
                        back = value(variance_back(growth, n, reading, k))
                        self.assertLessEqual(back, bound)
                        self.assertIs(back == bound, plain)
                        seen += 1
                        equal += plain
        self.assertGreater(seen, 100)
        self.assertGreater(equal, 20)


if __name__ == "__main__":
    unittest.main()
