import unittest

from upsanddowns.errors import BadNumber, BadPlace, BadRank, BadWord, Unseen
from upsanddowns.kept import Kept
from upsanddowns.normal import normal_terms
from upsanddowns.numbers import Numbers
from upsanddowns.strands import (
    down_ways, has_strands, single_ways, spread_row, spread_word, strand_numbers, up_ways,
)
from upsanddowns.walks import counts
from upsanddowns.webs import Web

from tests.helpers import Errors, all_kept, all_tuples, any_webs, places_of, stays, words_to
from tests.test_numbers import ROWS


def sums_at(web, n):
    """The pairs (up strands, down strands) of the places of a rank below the top."""
    return [
        (sum(web.ups[n][x]), sum(web.downs[n - 1][z][x] for z in range(web[n - 1])) if n > 0 else 0)
        for x in range(web[n])
    ]


def with_strands():
    """Kept webs with Numbers of the strand pairs of all ranks below their tops."""
    found = []
    for kept in all_kept():
        rows = [strand_numbers(kept.web, n) for n in range(kept.top)]
        if None not in rows:
            found.append((kept, Numbers(rows, tail=(3, -2))))
    return found


def slow_spread(numbers, strands, n, k):
    """The row s(n, k) as point 41 words it."""
    if k == 0:
        return [1] + [0] * n
    g, f = strands[n + k - 1]
    row = [f * entry for entry in slow_spread(numbers, strands, n, k - 1)]
    if k > 1:
        before = slow_spread(numbers, strands, n, k - 2)
        row = [one + g * numbers.gain(n, k - 1) * two for one, two in zip(row, before)]
    if n > 0:
        under = slow_spread(numbers, strands, n - 1, k - 1)
        row = [
            entry + (g * numbers.swaps(n, k - 1) * under[j - 1] if j > 0 else 0) for j, entry in enumerate(row)
        ]
    return row


class StrandNumbersTest(Errors, unittest.TestCase):
    def check(self, web, n):
        sums = sums_at(web, n)
        told = strand_numbers(web, n)
        ups = {up for up, _ in sums}
        downs = {down for _, down in sums}
        fitting = [
            (g, f) for g in range(12) for f in range(-60, 61) if all(up == g * down + f for up, down in sums)
        ]
        if not sums:
            self.assertEqual(told, (1, 0))
        elif len(downs) > 1:
            self.assertEqual(told, fitting[0] if fitting else None)
            self.assertLessEqual(len(fitting), 1)
        elif len(ups) == 1:
            self.assertEqual(told, (1, max(ups) - max(downs)))
        else:
            self.assertIsNone(told)
        for g in range(-3, 4):
            for f in range(-7, 8):
                self.assertIs(has_strands(web, n, g, f), all(up == g * down + f for up, down in sums))
        if told is not None:
            self.assertTrue(has_strands(web, n, told[0], told[1]))
            self.assertTrue(all_tuples(told))

    def test_any_webs(self):
        for web in any_webs() + [kept.web for kept in all_kept()]:
            for n in range(web.top):
                self.check(web, n)

    def test_made_for_it(self):
        low = Web([[[1, 2, 3]]])
        for row in ([3, 5, 7], [4, 7, 10], [5, 5, 5], [5, 4, 3], [1, 2, 4], [1, 3, 6], [3, 4, 6], [0, 0, 0]):
            self.check(low.grown([[one] for one in row]), 1)
        self.assertEqual(strand_numbers(low.grown([[5], [7], [9]]), 1), (2, 3))
        self.assertEqual(strand_numbers(low.grown([[5], [5], [5]]), 1), (0, 5))
        self.assertEqual(strand_numbers(low.grown([[2], [5], [8]]), 1), (3, -1))
        self.assertIsNone(strand_numbers(low.grown([[5], [4], [3]]), 1))
        half = Web([[[1, 3]]])
        self.assertIsNone(strand_numbers(half.grown([[1], [2]]), 1))
        self.assertEqual(strand_numbers(Web([[[2, 1], [0, 3]]]), 0), (1, 3))
        self.assertEqual(strand_numbers(Web([[[2, 1], [0, 0]]]), 0), None)
        self.assertEqual(strand_numbers(Web([[]], sizes=[0, 2]), 0), (1, 0))

    def test_simple_webs_have_their_numbers(self):
        seen = 0
        for kept in all_kept():
            if kept.web.is_simple:
                for n in range(kept.top):
                    seen += 1
                    self.assertTrue(has_strands(kept.web, n, kept.pair_at(n)[0], kept.pair_at(n)[1]))
        self.assertGreater(seen, 20)

    def test_refused(self):
        web = Web.shapes(2)
        for rank in (-1, 3, True, None):
            self.refused(BadRank, {"rank": rank}, strand_numbers, web, rank)
            self.refused(BadRank, {"rank": rank}, has_strands, web, rank, None, None)
        self.refused(Unseen, {"rank": 3}, strand_numbers, web, 2)
        for wrong in (True, None, "1"):
            self.refused(BadNumber, {"name": "g"}, has_strands, web, 2, wrong, wrong)
            self.refused(BadNumber, {"name": "f"}, has_strands, web, 2, 1, wrong)
        self.refused(Unseen, {"rank": 3}, has_strands, web, 2, 1, 1)


class WaysTest(Errors, unittest.TestCase):
    def test_ways(self):
        for web in any_webs():
            for n, x in places_of(web):
                for k in range(web.top + 2):
                    if n + k <= web.top:
                        self.assertEqual(up_ways(web, (n, x), k), sum(counts(web, (n, x), "u" * k)))
                    else:
                        self.refused(Unseen, {"rank": n + k}, up_ways, web, (n, x), k)
                    told = sum(counts(web, (n, x), "d" * k)) if k <= n else 0
                    self.assertEqual(down_ways(web, [n, x], k), told)

    def test_many_steps(self):
        web = Web.shapes(2)
        self.refused(Unseen, {"rank": 10 ** 15 + 1}, up_ways, web, (1, 0), 10 ** 15)
        self.assertEqual(down_ways(web, (1, 0), 10 ** 15), 0)

    def test_refused(self):
        web = Web.shapes(2)
        for call in (up_ways, down_ways):
            self.refused(BadPlace, {"rank": -1, "place": 3}, call, web, 3, -1)
            self.refused(BadRank, {"rank": 3}, call, web, (3, 0), -1)
            self.refused(BadPlace, {"rank": 2, "place": 2}, call, web, (2, 2), -1)
            for wrong in (-1, True, None):
                self.refused(BadNumber, {"name": "steps"}, call, web, (2, 0), wrong)


class SpreadTest(Errors, unittest.TestCase):
    def test_against_the_words(self):
        for numbers in ROWS[:4]:
            for strands in ROWS[1:5]:
                for n in range(4):
                    for k in range(5):
                        row = spread_row(numbers, strands, n, k)
                        self.assertEqual(row, tuple(slow_spread(numbers, strands, n, k)))
                        self.assertTrue(all_tuples(row))
                        self.assertEqual(spread_word(numbers, strands, n, "u" * k), row)

    def test_up_ways(self):
        seen = 0
        for kept, strands in with_strands():
            for n, x in places_of(kept.web):
                downs = [down_ways(kept.web, (n, x), j) for j in range(n + 1)]
                for k in range(kept.top - n + 1):
                    seen += 1
                    row = spread_row(kept.numbers, strands, n, k)
                    self.assertEqual(
                        up_ways(kept.web, (n, x), k), sum(one * two for one, two in zip(row, downs))
                    )
        self.assertGreater(seen, 150)

    def test_any_word(self):
        for kept, strands in with_strands():
            for n, x in places_of(kept.web):
                downs = [down_ways(kept.web, (n, x), j) for j in range(n + 1)]
                for word in words_to(4) + ["uudd", "dduuud", "uddudu"]:
                    if stays(kept.web, n, word):
                        row = spread_word(kept.numbers, strands, n, word)
                        self.assertEqual(len(row), n + 1)
                        self.assertEqual(
                            sum(counts(kept.web, (n, x), word)), sum(one * two for one, two in zip(row, downs))
                        )

    def test_words_by_terms(self):
        for numbers in ROWS[:4]:
            for strands in ROWS[2:4]:
                for n in range(4):
                    for word in words_to(5):
                        row = [0] * (n + 1)
                        for entry, t, k in normal_terms(numbers, word, n):
                            for j, one in enumerate(slow_spread(numbers, strands, n - t, k)):
                                row[j + t] += entry * one
                        self.assertEqual(spread_word(numbers, strands, n, word), tuple(row))

    def test_single_ways(self):
        seen = 0
        for kept, strands in with_strands():
            for i, x in places_of(kept.web):
                if kept.web.is_fresh(i, x):
                    for k in range(kept.top - i + 1):
                        seen += 1
                        self.assertEqual(single_ways(kept.numbers, strands, i, k), up_ways(kept.web, (i, x), k))
        self.assertGreater(seen, 60)

    def test_single_ways_by_rows(self):
        # From a fresh place there is one down-way of no step and no other one.
        for numbers in ROWS:
            for strands in ROWS:
                for i in range(4):
                    told = [single_ways(numbers, strands, i, k) for k in range(6)]
                    self.assertEqual(told, [spread_row(numbers, strands, i, k)[0] for k in range(6)])
                    self.assertEqual(told[0], 1)
                    self.assertEqual(told[1], strands[i][1])
                    for k in range(2, 6):
                        g, f = strands[i + k - 1]
                        self.assertEqual(told[k], f * told[k - 1] + g * numbers.gain(i, k - 1) * told[k - 2])

    def test_known(self):
        one = Numbers.steady(1, 1)
        self.assertEqual([single_ways(one, one, 0, k) for k in range(7)], [1, 1, 2, 4, 10, 26, 76])
        self.assertEqual(single_ways(one, Numbers.steady(0, 3), 2, 4), 81)
        self.assertEqual(spread_row(one, one, 0, 3), (4,))
        self.assertEqual(spread_row(one, one, 2, 0), (1, 0, 0))
        self.assertEqual(spread_word(one, one, 1, "dd"), (0, 0))
        self.assertEqual(spread_word(one, one, 2, "dd"), (0, 0, 1))

    def test_refused(self):
        one = Numbers.steady(1, 1)
        for call in (spread_row, single_ways):
            for wrong in (-1, True, None):
                self.refused(BadRank, {"rank": wrong}, call, one, one, wrong, -1)
                self.refused(BadNumber, {"name": "steps"}, call, one, one, 2, wrong)
        self.refused(BadRank, {"rank": -1}, spread_word, one, one, -1, 5)
        self.refused(BadWord, {"at": -1}, spread_word, one, one, 0, 5)
        self.refused(BadWord, {"at": 1}, spread_word, one, one, 0, "ux")


class GreatTest(unittest.TestCase):
    def test_great_numbers(self):
        many = 10 ** 12
        numbers = Numbers.steady(many, many)
        self.assertEqual(len(spread_row(numbers, numbers, 11, 12)), 12)
        self.assertGreater(single_ways(numbers, numbers, 11, 12), many ** 12)
        kept = Kept(Web([[[many]]], downs=[[[many]]]), Numbers([(1, many ** 2)]))
        self.assertEqual(up_ways(kept.web, (0, 0), 1), many)


if __name__ == "__main__":
    unittest.main()
