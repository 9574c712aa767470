import unittest

from upsanddowns.errors import BadPlace, BadRank, BadWord, Unseen
from upsanddowns.kept import Kept
from upsanddowns.makers import chain
from upsanddowns.normal import joined, normal_row, normal_terms, told_count, told_counts
from upsanddowns.numbers import Numbers
from upsanddowns.walks import count, counts
from upsanddowns.webs import Web
from upsanddowns.words import climb, dips, rise, turned

from tests.helpers import Errors, all_kept, all_tuples, heights_of, places_at, places_of, stays, words_to
from tests.test_numbers import ROWS


def slow_row(numbers, word, n):
    """The normal row as point 31 words it."""
    a, b = word.count("u"), word.count("d")
    row = [1] + [0] * min(a, b)
    ups = downs = 0
    for letter in word:
        if letter == "u":
            ups += 1
            continue
        later = []
        for c in range(len(row)):
            entry = 0
            if row[c] != 0 and downs + 1 - c <= n:
                entry += row[c] * numbers.swaps(n - downs + c, ups - c)
            if c >= 1 and row[c - 1] != 0:
                entry += row[c - 1] * numbers.gain(n - downs + c - 1, ups - c + 1)
            later.append(entry)
        row = later
        downs += 1
    return tuple(0 if b - c > n else entry for c, entry in enumerate(row))


class RowsTest(Errors, unittest.TestCase):
    def test_against_the_words(self):
        for numbers in ROWS:
            for word in words_to(6):
                for n in range(5):
                    row = normal_row(numbers, word, n)
                    self.assertEqual(row, slow_row(numbers, word, n))
                    self.assertEqual(len(row), min(word.count("u"), word.count("d")) + 1)
                    self.assertTrue(all_tuples(row))
                    if dips(word, n):
                        self.assertFalse(any(row))
                    terms = normal_terms(numbers, word, n)
                    a, b = word.count("u"), word.count("d")
                    self.assertEqual(terms, tuple((k, b - c, a - c) for c, k in enumerate(row) if k != 0))

    def test_known_rows(self):
        one = Numbers.steady(1, 1)
        self.assertEqual(normal_row(one, "", 0), (1,))
        self.assertEqual(normal_row(one, "uuu", 0), (1,))
        self.assertEqual(normal_row(one, "dd", 2), (1,))
        self.assertEqual(normal_row(one, "dd", 1), (0,))
        self.assertEqual(normal_row(one, "uudd", 2), (1, 4, 2))
        self.assertEqual(normal_row(one, "uudd", 1), (0, 4, 2))
        self.assertEqual(normal_row(one, "uudd", 0), (0, 0, 2))
        self.assertEqual(normal_row(Numbers.steady(0, 3), "uudd", 5), (0, 0, 9))
        self.assertEqual(normal_row(Numbers.steady(2, 1), "ud", 10 ** 9), (2, 1))
        self.assertEqual(normal_terms(one, "uudd", 1), ((4, 1, 1), (2, 0, 0)))
        self.assertEqual(normal_terms(one, "d", 0), ())

    def test_turned_words(self):
        for numbers in ROWS:
            for word in words_to(6):
                for n in range(4):
                    if not dips(word, n):
                        self.assertEqual(
                            normal_row(numbers, turned(word), n + rise(word)), normal_row(numbers, word, n)
                        )

    def test_vals(self):
        for numbers in ROWS:
            for word in words_to(5):
                for n in range(4):
                    for i in range(n + 1):
                        total = 0
                        for c, entry in enumerate(normal_row(numbers, word, n)):
                            for j in range(word.count("d") - c):
                                entry *= numbers.gain(i, n - i - j) if n - i - j > 0 else 0
                            total += entry
                        self.assertEqual(numbers.val(i, n, word), total)

    def test_refused(self):
        one = Numbers.steady(1, 1)
        for call in (normal_row, normal_terms):
            self.refused(BadWord, {"at": -1}, call, one, 5, -1)
            self.refused(BadWord, {"at": 2}, call, one, "udx", -1)
            for rank in (-1, True, None, "1"):
                self.refused(BadRank, {"rank": rank}, call, one, "d", rank)


class JoinedTest(Errors, unittest.TestCase):
    def test_rows_of_both_words(self):
        for numbers in ROWS:
            for v in words_to(3):
                for w in words_to(3):
                    for n in range(4):
                        self.assertEqual(joined(numbers, n, v, w), normal_row(numbers, v + w, n))

    def test_long_words(self):
        for v, w in (("uuuddu", "dduudd"), ("ududud", "uuuddd"), ("dduuuu", "dddduu"), ("dddddu", "uuuu")):
            for n in (0, 1, 2, 5):
                self.assertEqual(joined(ROWS[5], n, v, w), normal_row(ROWS[5], v + w, n))

    def test_refused(self):
        one = Numbers.steady(1, 1)
        for rank in (-1, True, None):
            self.refused(BadRank, {"rank": rank}, joined, one, rank, 5, 5)
        self.refused(BadWord, {"at": 0}, joined, one, 0, "x", 5)
        self.refused(BadWord, {"at": 1}, joined, one, 0, "ddd", "ux")
        self.refused(BadWord, {"at": -1}, joined, one, 0, "", None)


class ToldTest(Errors, unittest.TestCase):
    def test_every_word_in_the_ranks(self):
        for kept in all_kept():
            for place in places_of(kept.web):
                for word in words_to(4 if len(places_of(kept.web)) < 12 else 3):
                    if stays(kept.web, place[0], word):
                        self.assertEqual(told_counts(kept, place, word), counts(kept.web, place, word))

    def test_cut_webs_tell_the_same(self):
        seen = 0
        for kept in all_kept():
            for top in range(kept.top):
                less = kept.cut(top)
                for place in places_of(less.web):
                    for word in ("ud", "uudd", "udud", "uuddd", "dudu", "uuudd", "udduud", "uuuddd", "u", "du"):
                        last = place[0] + rise(word)
                        if last < 0 or last > top:
                            continue
                        told = told_counts(less, place, word)
                        self.assertEqual(told, told_counts(kept, place, word))
                        if climb(word, place[0]) <= kept.top:
                            seen += climb(word, place[0]) > top
                            self.assertEqual(told, counts(kept.web, place, word))
        self.assertGreater(seen, 100)

    def test_all_other_places(self):
        kept = Kept(Web.shapes(4), Numbers.steady(1, 1)).cut(2)
        whole = Kept(Web.shapes(6), Numbers.steady(1, 1))
        for place in places_of(kept.web):
            for other in places_of(kept.web):
                for word in words_to(6):
                    if climb(word, place[0]) <= 6:
                        self.assertEqual(told_count(kept, place, word, other), count(whole.web, place, word, other))

    def test_climbing_and_going_down_again(self):
        for kept in all_kept():
            for i, x in places_of(kept.web):
                for s in range(1, kept.top - i + 1):
                    for y in places_at(kept.web, i + s - 1):
                        self.assertEqual(
                            told_count(kept, (i, x), "u" * s + "d", y),
                            kept.numbers.swaps(i, s) * told_count(kept, (i, x), "d" + "u" * s, y)
                            + kept.numbers.gain(i, s) * told_count(kept, (i, x), "u" * (s - 1), y),
                        )

    def test_late_chains(self):
        for numbers in (Numbers.steady(1, 1), Numbers([(1, 3), (2, 1), (3, 2)])):
            for i in range(3):
                whole = Kept(chain(numbers, i, 8), numbers)
                less = whole.cut(i + 1)
                for word in words_to(6):
                    if not dips(word, i) and rise(word) in (0, 1):
                        self.assertEqual(
                            told_count(less, (i, 0), word, (i + rise(word), 0)), numbers.val(i, i, word)
                        )

    def test_dipping_and_other_ranks(self):
        kept = Kept(Web.shapes(2), Numbers.steady(1, 1))
        self.assertEqual(told_count(kept, (2, 0), "uudd", [2, 1]), 5)
        self.assertEqual(told_count(kept, (0, 0), "du", (0, 0)), 0)
        self.assertEqual(told_count(kept, (0, 0), "duuuuuddd", (1, 0)), 0)
        self.assertEqual(told_count(kept, (0, 0), "uuuuuu", (2, 0)), 0)
        self.assertEqual(told_count(kept, (0, 0), "d", (0, 0)), 0)
        self.assertEqual(told_counts(kept, (1, 0), "dd"), ())
        self.assertEqual(told_counts(kept, (1, 0), "uuudddddd"), ())
        self.assertEqual(told_counts(kept, (1, 0), "dduuu"), (0, 0))
        self.assertEqual(told_counts(kept, (1, 0), ""), (1,))
        self.refused(Unseen, {"rank": 3}, told_counts, kept, (0, 0), "uuu")
        self.refused(Unseen, {"rank": 3}, told_counts, kept, (0, 0), "duuuu")
        self.refused(Unseen, {"rank": 4}, told_counts, kept, (1, 0), "uuuuddu")
        empty = Kept(Web([[[]]], sizes=[1, 0]), Numbers([(1, 0)]))
        self.assertEqual(told_counts(empty, (0, 0), "uud"), ())
        self.assertEqual(told_counts(empty, (0, 0), "ud"), (0,))

    def test_refused(self):
        kept = Kept(Web.shapes(2), Numbers.steady(1, 1))
        for call in (lambda place, word: told_count(kept, place, word, 5), lambda place, word: told_counts(kept, place, word)):
            self.refused(BadPlace, {"rank": -1, "place": 5}, call, 5, 5)
            self.refused(BadRank, {"rank": 3}, call, (3, 0), 5)
            self.refused(BadPlace, {"rank": 1, "place": 1}, call, (1, 1), 5)
            self.refused(BadWord, {"at": -1}, call, (1, 0), 5)
            self.refused(BadWord, {"at": 0}, call, (1, 0), "x")
        self.refused(BadPlace, {"rank": -1, "place": None}, told_count, kept, (1, 0), "d", None)
        self.refused(BadRank, {"rank": 3}, told_count, kept, (1, 0), "uu", (3, 0))
        self.refused(BadPlace, {"rank": 0, "place": 1}, told_count, kept, (1, 0), "d", (0, 1))


if __name__ == "__main__":
    unittest.main()
