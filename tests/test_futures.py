import unittest

from upsanddowns.errors import BadNumber, BadRank, BadWord, NoneSuch, NotEven, TooMany, Unseen
from upsanddowns.futures import agree_on, first_parting, floor_of_size, futures_many, size_ends, two_futures
from upsanddowns.grids import rank_of
from upsanddowns.kept import Kept
from upsanddowns.needs import may_end, need, reflected
from upsanddowns.normal import told_count
from upsanddowns.numbers import Numbers
from upsanddowns.strands import single_ways, strand_numbers, up_ways
from upsanddowns.systems import ways_table
from upsanddowns.webs import Web
from upsanddowns.writings import column_room, fewest_columns, grown_by, most_columns, writing_many, writings

from tests.helpers import Errors, all_kept, closed_words, even_kept, places_at, places_of, words_to
from tests.test_writings import small_evens, slow_writings, with_need

UNEVEN = Kept(Web([[[1]], [[1]]], downs=[[[1]], [[2]]]), Numbers([(1, 1), (1, 1)]))


class TwoTest(Errors, unittest.TestCase):
    def test_first_two(self):
        some = 0
        for kept in small_evens():
            told = list(writings(kept))
            found = two_futures(kept)
            if len(told) < 2:
                self.assertIsNone(found)
                continue
            some += 1
            self.assertIs(type(found), tuple)
            self.assertEqual(found, (grown_by(kept, told[0]), grown_by(kept, told[1])))
            self.assertTrue(all(one.web.is_even for one in found))
            self.assertEqual(first_parting(found[0], found[1]), kept.top + 1)
            self.assertIs(agree_on(found[0], found[1], kept.top, words_to(5) + ["uuddud", "uuuddd"]), True)
        self.assertGreater(some, 10)

    def test_none(self):
        self.assertIsNone(two_futures(with_need([[-1]])))
        self.assertIsNone(two_futures(with_need([[3]])))
        self.assertIsNone(two_futures(with_need([[0]])))
        self.assertIsNotNone(two_futures(with_need([[4]])))

    def test_refused(self):
        self.refused(NotEven, {"rank": 1}, two_futures, UNEVEN)
        self.refused(TooMany, {"limit": 300}, two_futures, with_need([[400]]))


class PartingTest(Errors, unittest.TestCase):
    def test_first_parting(self):
        kepts = all_kept()
        seen = set()
        for one in kepts:
            for two in kepts:
                want = None
                for n in range(min(one.top, two.top), -1, -1):
                    if one.web.sizes[n] != two.web.sizes[n]:
                        want = n
                    elif n and (one.web.ups[n - 1] != two.web.ups[n - 1] or one.web.downs[n - 1] != two.web.downs[n - 1]):
                        want = n
                found = first_parting(one, two)
                self.assertEqual(found, want)
                seen.add(found)
        self.assertTrue({None, 0, 1, 2} <= seen)
        for kept in kepts:
            for n in range(kept.top + 1):
                self.assertIsNone(first_parting(kept, kept.cut(n)))

    def test_numbers_are_not_compared(self):
        web = Web([], sizes=[2])
        self.assertIsNone(first_parting(Kept(web, Numbers([])), Kept(web, Numbers([(5, 7)]))))
        self.assertEqual(
            first_parting(Kept(Web([[[1]]]), Numbers([(1, 1)])), Kept(Web([[[1]]], downs=[[[2]]]), Numbers([(1, 2)]))), 1
        )
        self.assertEqual(
            first_parting(Kept(Web.shapes(5), Numbers([])), Kept(Web.words(5), Numbers([]))), 3
        )


class AgreeTest(Errors, unittest.TestCase):
    def test_against_counts(self):
        one, two = Kept(Web.shapes(4), Numbers([])), Kept(Web.words(4), Numbers([]))
        other = Kept(Web.shapes(4), Numbers([]).changed(4, (2, 5)))
        seen = set()
        for a, b in ((one, two), (one, one), (one, other), (other, two)):
            for n in range(5):
                for word in words_to(4) + ["uuuddd", "uuuudddd"]:
                    want = a.sizes[:n + 1] == b.sizes[:n + 1]
                    for place in places_of(a.cut(n).web):
                        last = place[0] + word.count("u") - word.count("d")
                        if want and 0 <= last <= n:
                            want = all(
                                told_count(a, place, word, y) == told_count(b, place, word, y)
                                for y in places_at(a.web, last)
                            )
                    found = agree_on(a, b, n, [word])
                    self.assertIs(found, want)
                    seen.add((found, n))
        self.assertTrue({(True, 4), (False, 4), (True, 2), (False, 3)} <= seen)

    def test_edges(self):
        one, two = Kept(Web.shapes(3), Numbers([])), Kept(Web.subsets(3), Numbers.falling(3))
        self.assertIs(agree_on(one, two, 0, ()), True)
        self.assertIs(agree_on(one, two, 1, []), False)
        self.assertIs(agree_on(one, two, 0, ["u", "d", ""]), True)
        self.assertIs(agree_on(one, two, 0, ["", "ud"]), False)
        self.assertIs(agree_on(one, one.cut(2), 2, ("uuuddd", "dud")), True)

    def test_same_from_the_origin(self):
        # Shapes and words, told to rank 5 and beyond, agree from rank 0.
        one, two = Kept(Web.shapes(6), Numbers([])), Kept(Web.words(6), Numbers([]))
        self.assertEqual((one.sizes[:6], two.sizes[:6]), ((1, 1, 2, 3, 5, 7), (1, 1, 2, 3, 5, 8)))
        self.assertIs(agree_on(one, two, 0, closed_words(8)), True)

    def test_refused(self):
        one = Kept(Web.shapes(3), Numbers([]))
        for rank in (-1, True, None):
            self.refused(BadRank, {"rank": rank}, agree_on, one, one.cut(2), rank, None)
        for words in (None, "ud", 5, {}):
            self.refused(BadWord, {"at": -1}, agree_on, one, one.cut(2), 3, words)
        self.refused(BadWord, {"at": -1}, agree_on, one, one.cut(2), 3, ["u", None, "x"])
        self.refused(BadWord, {"at": 2}, agree_on, one, one.cut(2), 3, ["u", "uux", "x"])
        self.refused(Unseen, {"rank": 3}, agree_on, one, one.cut(2), 3, ["u"])
        self.refused(Unseen, {"rank": 3}, agree_on, one.cut(2), one, 3, ["u"])


class FloorTest(Errors, unittest.TestCase):
    def test_least(self):
        one = Numbers.steady(1, 1)
        for numbers, strands in ((one, one), (Numbers.steady(2, 3), one), (one, Numbers([(0, 2), (2, 1)])),
                                 (Numbers([(1, 3), (0, 2), (2, 1)]), Numbers([(3, 1), (1, 0)]))):
            for i in range(3):
                for k in range(6):
                    many, whole = single_ways(numbers, strands, i, k), numbers.gains(i, k)
                    found = floor_of_size(numbers, strands, i, k)
                    self.assertIs(type(found), int)
                    self.assertGreaterEqual(found * whole, many * many)
                    self.assertTrue(found == 0 or (found - 1) * whole < many * many)

    def test_places_reached(self):
        equal = more = 0
        for kept in even_kept():
            web = kept.web
            pairs = [strand_numbers(web, n) for n in range(web.top)]
            if None in pairs:
                continue
            strands = Numbers(pairs)
            for i, x in places_of(web):
                if not web.is_fresh(i, x):
                    continue
                for k in range(web.top - i + 1):
                    row = ways_table(web, i, k)[x]
                    many = len([one for one in row if one])
                    self.assertEqual(sum(row), single_ways(kept.numbers, strands, i, k))
                    self.assertGreaterEqual(many, floor_of_size(kept.numbers, strands, i, k))
                    level = len({one for one in row if one}) <= 1
                    tight = many * kept.numbers.gains(i, k) == up_ways(web, (i, x), k) ** 2
                    self.assertIs(tight, level)
                    self.assertGreaterEqual(many * kept.numbers.gains(i, k), sum(row) ** 2)
                    equal += tight
                    more += not tight
        self.assertGreater(equal, 10)
        self.assertGreater(more, 5)

    def test_gains_that_are_not_above_0(self):
        falling = Numbers.falling(2)
        self.assertEqual(falling.gains(0, 3), 0)
        self.assertEqual(floor_of_size(falling, falling, 0, 3), 0)
        ones = Numbers.steady(1, 1)
        self.refused(NoneSuch, {"rank": 3}, floor_of_size, falling, ones, 0, 3)
        below = Numbers([(1, 1), (1, -3)])
        self.assertEqual((below.gains(0, 2), single_ways(below, below, 0, 2)), (-2, -2))
        self.refused(NoneSuch, {"rank": 2}, floor_of_size, below, below, 0, 2)
        self.assertEqual(floor_of_size(below, Numbers.steady(0, 0), 0, 2), 0)

    def test_refused(self):
        one = Numbers.steady(1, 1)
        for start in (-1, True, None):
            self.refused(BadRank, {"rank": start}, floor_of_size, one, one, start, -1)
        for steps in (-1, True, None):
            self.refused(BadNumber, {"name": "steps"}, floor_of_size, one, one, 0, steps)


class EndsTest(Errors, unittest.TestCase):
    def test_ends(self):
        for kept in small_evens():
            low, high = size_ends(kept)
            self.assertEqual(low, rank_of(need(kept)))
            self.assertEqual(high, column_room(kept))
            steps = [b - a for a, b in zip((0,) + kept.sizes, kept.sizes)]
            gains = [kept.numbers.gain(i, kept.top + 1 - i) for i in range(kept.top + 1)]
            self.assertEqual(low, sum(step for step, gain in zip(steps, gains) if gain))
            self.assertEqual(high, sum(step * gain for step, gain in zip(steps, gains)))
            if kept.numbers.lively_to(kept.top + 1):
                self.assertEqual(low, kept.sizes[-1])
            if writing_many(kept):
                self.assertLessEqual(low, fewest_columns(kept))
                self.assertLessEqual(most_columns(kept), high)
        self.assertEqual(size_ends(Kept(Web([], sizes=[0]), Numbers([]))), (0, 0))
        self.assertEqual(size_ends(with_need([[-3]])), (1, -3))
        self.refused(NotEven, {"rank": 1}, size_ends, UNEVEN)


class ManyTest(Errors, unittest.TestCase):
    def slow(self, kept, ranks):
        if ranks == 0:
            return 1
        return sum(self.slow(grown_by(kept, writing), ranks - 1) for writing in slow_writings(need(kept)))

    def test_against_listing(self):
        seen = set()
        for kept in small_evens():
            self.assertEqual(futures_many(kept, 0), 1)
            self.assertEqual(futures_many(kept, 1), writing_many(kept))
            if sum(row[x] for x, row in enumerate(need(kept))) <= 5:
                want = self.slow(kept, 2)
                self.assertEqual(futures_many(kept, 2), want)
                seen.add(want)
        self.assertGreater(len(seen), 4)
        one = Kept(Web([], sizes=[1]), Numbers([]))
        self.assertEqual([futures_many(one, ranks) for ranks in range(5)], [1, 1, 1, 1, self.slow(one, 4)])
        for r in (-5, -3, -1, 0, 1):
            kept = Kept(Web([], sizes=[1]), Numbers([(1, 4), (1, r)]))
            self.assertEqual(futures_many(kept, 2), self.slow(kept, 2))

    def test_limits(self):
        four = with_need([[4]])
        self.assertEqual(futures_many(four, 1, limit=2), 2)
        self.refused(TooMany, {"limit": 1}, futures_many, four, 1, limit=1)
        self.assertEqual(futures_many(four, 0, limit=0), 1)
        # More than the limit by the first rank, though there is no going on by the second one.
        none = Kept(Web([], sizes=[1]), Numbers([(1, 4), (1, -9)]))
        self.assertEqual(futures_many(none, 2, limit=2), 0)
        self.refused(TooMany, {"limit": 1}, futures_many, none, 2, limit=1)
        self.assertEqual(futures_many(none, 3, limit=2), 0)
        self.refused(TooMany, {"limit": 300}, futures_many, with_need([[400]]), 1)
        self.assertEqual(futures_many(Kept(Web.subsets(2), Numbers.falling(2)), 5, limit=1), 1)

    def test_refused(self):
        for wrong in (-1, True, None, "1"):
            self.refused(BadNumber, {"name": "ranks"}, futures_many, UNEVEN, wrong, limit=-1)
            self.refused(BadNumber, {"name": "limit"}, futures_many, UNEVEN, 1, limit=wrong)
        self.refused(NotEven, {"rank": 1}, futures_many, UNEVEN, 1)


class GoingOnTest(Errors, unittest.TestCase):
    def test_for_ever(self):
        for kept in all_kept():
            if kept.numbers.is_positive:
                self.assertTrue(kept.numbers.lively_to(kept.top + 5))
                self.assertEqual(reflected(kept).top, kept.top + 1)
                self.assertIs(may_end(kept), kept.sizes[-1] == 0)


if __name__ == "__main__":
    unittest.main()
