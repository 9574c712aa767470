import unittest
from itertools import combinations
from math import factorial

from upsanddowns.errors import BadNumber, BadRank, BadWord
from upsanddowns.kept import Kept
from upsanddowns.normal import normal_row, told_count
from upsanddowns.numbers import Numbers
from upsanddowns.totals import all_words, by_formula, picks, total
from upsanddowns.webs import Web
from upsanddowns.words import rise

from tests.helpers import Errors, all_kept, closed_words, stays, table_of, words_to
from tests.test_numbers import ROWS


def slow_picks(word, many):
    """Sets of pairs, tried one by one."""
    pairs = [
        (u, d) for u in range(len(word)) for d in range(u + 1, len(word)) if word[u] == "u" and word[d] == "d"
    ]
    return sum(
        len({u for u, _ in chosen}) == many and len({d for _, d in chosen}) == many
        for chosen in combinations(pairs, many)
    )


class TotalTest(Errors, unittest.TestCase):
    def test_against_walks(self):
        for kept in all_kept():
            for n in range(kept.top + 1):
                for word in closed_words(6):
                    if stays(kept.web, n, word):
                        table = table_of(kept.web, n, word)
                        self.assertEqual(total(kept, n, word), sum(table[x][x] for x in range(kept.web[n])))
                    told = sum(told_count(kept, (n, x), word, (n, x)) for x in range(kept.web[n]))
                    self.assertEqual(total(kept, n, word), told)
                    self.assertIs(type(total(kept, n, word)), int)

    def test_words_that_climb_above_the_top(self):
        for kept in all_kept():
            for n in range(kept.top):
                less = kept.cut(n)
                for word in ("ud", "uudd", "udud", "duud", "uuuddd", "uuddud", "dduuud"):
                    self.assertEqual(total(less, n, word), total(kept, n, word))

    def test_turned_round(self):
        for kept in all_kept():
            for word in closed_words(6):
                for at in range(len(word) + 1):
                    for n in range(kept.top + 1):
                        end = n + rise(word[:at])
                        if 0 <= end <= kept.top:
                            self.assertEqual(total(kept, n, word), total(kept, end, word[at:] + word[:at]))

    def test_edges(self):
        kept = Kept(Web.shapes(3), Numbers.steady(1, 1))
        self.assertEqual([total(kept, n, "") for n in range(4)], [1, 1, 2, 3])
        self.assertEqual(total(kept, 0, "du"), 0)
        self.assertEqual(total(kept, 1, "dduu"), 0)
        self.assertEqual(total(kept, 0, "u"), 0)
        self.assertEqual(total(kept, 3, "uuuuu"), 0)
        self.assertEqual(total(kept, 0, "ddddd"), 0)
        self.assertEqual(total(kept, 0, "uuuuuudddddd"), factorial(6))
        empty = Kept(Web([], sizes=[0]), Numbers([]))
        self.assertEqual(total(empty, 0, "ud"), 0)

    def test_refused(self):
        kept = Kept(Web.shapes(2), Numbers.steady(1, 1))
        for rank in (-1, 3, True, None, "1"):
            self.refused(BadRank, {"rank": rank}, total, kept, rank, 5)
        self.refused(BadWord, {"at": -1}, total, kept, 2, None)
        self.refused(BadWord, {"at": 1}, total, kept, 2, "u ")
        self.refused(BadWord, {"at": 2}, total, kept, 2, "uux")


class PicksTest(Errors, unittest.TestCase):
    def test_sets_of_pairs(self):
        for word in words_to(7):
            for many in range(5):
                self.assertEqual(picks(word, many), slow_picks(word, many))

    def test_edges(self):
        self.assertEqual(picks("", 0), 1)
        self.assertEqual(picks("", 1), 0)
        self.assertEqual(picks("ddduuu", 1), 0)
        self.assertEqual(picks("uuuuuudddddd", 6), 720)
        self.assertEqual(picks("ud", 10 ** 9), 0)

    def test_normal_rows(self):
        for r in (-2, 0, 1, 3):
            numbers = Numbers.steady(1, r)
            for word in words_to(6):
                for n in range(5):
                    b = word.count("d")
                    for c, entry in enumerate(normal_row(numbers, word, n)):
                        if b - c <= n:
                            self.assertEqual(entry, r ** c * picks(word, c))
                        else:
                            self.assertEqual(entry, 0)

    def test_refused(self):
        self.refused(BadWord, {"at": -1}, picks, 3, -1)
        self.refused(BadWord, {"at": 0}, picks, "x", -1)
        for many in (-1, True, None, "0"):
            self.refused(BadNumber, {"name": "many"}, picks, "ud", many)


class AllWordsTest(Errors, unittest.TestCase):
    def test_against_all_words(self):
        for numbers in ROWS:
            for n in range(4):
                sums = {}
                for word in words_to(6):
                    a, b = word.count("u"), word.count("d")
                    for c, entry in enumerate(normal_row(numbers, word, n)):
                        key = (len(word), b - c, a - c)
                        sums[key] = sums.get(key, 0) + entry
                for length in range(7):
                    for downs in range(length + 3):
                        for ups in range(length + 3):
                            told = all_words(numbers, n, length, downs, ups)
                            want = sums.get((length, downs, ups), 0) if downs <= n else 0
                            self.assertEqual(told, want)

    def test_formula(self):
        for r in (-3, -1, 0, 1, 2):
            numbers = Numbers.steady(1, r)
            for length in range(9):
                for downs in range(5):
                    for ups in range(5):
                        told = by_formula(r, length, downs, ups)
                        self.assertIs(type(told), int)
                        self.assertEqual(all_words(numbers, downs + 2, length, downs, ups), told)
                        self.assertEqual(all_words(numbers, downs, length, downs, ups), told)
                        if downs > 0:
                            self.assertEqual(all_words(numbers, downs - 1, length, downs, ups), 0)

    def test_edges(self):
        self.assertEqual(by_formula(0, 5, 2, 3), 10)
        self.assertEqual(by_formula(0, 7, 2, 3), 0)
        self.assertEqual(by_formula(2, 6, 2, 3), 0)
        self.assertEqual(by_formula(2, 3, 2, 3), 0)
        self.assertEqual(by_formula(1, 0, 0, 0), 1)
        self.assertEqual(by_formula(5, 2, 0, 0), 5)
        self.assertEqual(all_words(Numbers([]), 0, 0, 0, 0), 1)
        self.assertEqual(all_words(Numbers([]), 1, 3, 2, 1), 0)
        self.assertEqual(all_words(Numbers.steady(1, 1), 12, 12, 0, 0), 10395)
        self.assertEqual(by_formula(1, 40, 0, 0), factorial(40) // (factorial(20) * 2 ** 20))

    def test_refused(self):
        one = Numbers.steady(1, 1)
        for wrong in (-1, True, None, "1"):
            self.refused(BadRank, {"rank": wrong}, all_words, one, wrong, -1, -1, -1)
            self.refused(BadNumber, {"name": "length"}, all_words, one, 0, wrong, -1, -1)
            self.refused(BadNumber, {"name": "downs"}, all_words, one, 0, 2, wrong, -1)
            self.refused(BadNumber, {"name": "ups"}, all_words, one, 0, 2, 5, wrong)
            self.refused(BadNumber, {"name": "length"}, by_formula, 1, wrong, -1, -1)
            self.refused(BadNumber, {"name": "downs"}, by_formula, 1, 0, wrong, -1)
            self.refused(BadNumber, {"name": "ups"}, by_formula, 1, 0, 3, wrong)
        for wrong in (True, None, "1", (1,)):
            self.refused(BadNumber, {"name": "r"}, by_formula, wrong, -1, -1, -1)


if __name__ == "__main__":
    unittest.main()
