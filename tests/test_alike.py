import unittest

from upsanddowns.alike import alike_words, apart_start, are_alike, same_everywhere
from upsanddowns.errors import BadRank, BadWord, NoneSuch, NotPositive, TooMany
from upsanddowns.kept import Kept
from upsanddowns.makers import chain
from upsanddowns.normal import normal_row, told_counts
from upsanddowns.numbers import Numbers
from upsanddowns.walks import count
from upsanddowns.words import climb, dips, rise

from tests.helpers import Errors, all_kept, all_tuples, places_at, words_to
from tests.test_numbers import ROWS

POSITIVE = [
    Numbers.steady(1, 1), Numbers.steady(2, 3), Numbers([(1, 2), (0, 1), (3, 1), (1, 4), (0, 2)]), Numbers.steady(0, 1),
    Numbers([(1, 1), (2, 1)], tail=(0, 5)),
]


def letters(word):
    return (word.count("u"), word.count("d"))


class AlikeTest(Errors, unittest.TestCase):
    def test_are_alike(self):
        found = set()
        for numbers in ROWS + POSITIVE:
            for v in words_to(4):
                for w in words_to(4):
                    for n in range(3):
                        expected = letters(v) == letters(w) and normal_row(numbers, v, n) == normal_row(numbers, w, n)
                        self.assertIs(are_alike(numbers, v, w, n), expected)
                        found.add(expected and v != w)
        self.assertEqual(found, {True, False})
        self.assertIs(are_alike(Numbers.steady(0, 1), "u", "", 0), False)
        self.assertIs(are_alike(Numbers.steady(1, 1), "du", "ud", 0), False)
        self.assertIs(are_alike(Numbers.steady(1, 1), "ddu", "dud", 0), True)

    def test_alike_words_have_equal_counts(self):
        for kept in all_kept():
            for n in range(kept.top + 1):
                for v in words_to(4):
                    for w in words_to(4):
                        if v < w and letters(v) == letters(w) and n + rise(v) <= kept.top:
                            if are_alike(kept.numbers, v, w, n):
                                for place in places_at(kept.web, n)[:2]:
                                    self.assertEqual(told_counts(kept, place, v), told_counts(kept, place, w))

    def test_apart_start(self):
        none = some = 0
        for numbers in POSITIVE:
            for v in words_to(4):
                for w in words_to(4):
                    for n in range(3):
                        if letters(v) != letters(w):
                            self.refused(NoneSuch, {"rank": n}, apart_start, numbers, v, w, n)
                            continue
                        i = apart_start(numbers, v, w, n)
                        self.assertIs(i is None, are_alike(numbers, v, w, n))
                        none, some = none + (i is None), some + (i is not None)
                        if n + rise(v) >= 0:
                            self.assertEqual(i, self.by_chains(numbers, v, w, n))
        self.assertGreater(min(none, some), 100)

    def by_chains(self, numbers, v, w, n):
        top = max(climb(v, n), climb(w, n))
        last = n + rise(v)
        apart = []
        for i in range(n + 1):
            if last < i:
                continue
            web = chain(numbers, i, top)
            one, two = count(web, (n, 0), v, (last, 0)), count(web, (n, 0), w, (last, 0))
            if one != two:
                apart.append(i)
        return max(apart) if apart else None

    def test_same_everywhere(self):
        found = set()
        for numbers in ROWS + POSITIVE:
            for v in words_to(4):
                for w in words_to(4):
                    for n in range(3):
                        same = rise(v) == rise(w) and all(
                            numbers.val(i, n, v) == numbers.val(i, n, w) for i in range(n + 1)
                        )
                        self.assertIs(same_everywhere(numbers, v, w, n), same)
                        found.add((same, letters(v) == letters(w), v == w))
                        if same and letters(v) == letters(w) and numbers.is_positive and n + rise(v) >= 0:
                            self.assertTrue(are_alike(numbers, v, w, n))
        self.assertGreaterEqual(len(found), 5)
        self.assertIs(same_everywhere(Numbers.steady(1, 1), "", "ud", 0), True)
        self.assertIs(same_everywhere(Numbers.steady(1, 1), "", "ud", 1), False)

    def test_same_everywhere_means_equal_counts(self):
        for kept in all_kept():
            if not kept.numbers.is_positive:
                continue
            for n in range(kept.top + 1):
                for v in words_to(4):
                    for w in words_to(4):
                        if v < w and rise(v) == rise(w) and 0 <= n + rise(v) <= kept.top:
                            if same_everywhere(kept.numbers, v, w, n):
                                for place in places_at(kept.web, n)[:2]:
                                    self.assertEqual(told_counts(kept, place, v), told_counts(kept, place, w))

    def test_alike_words(self):
        for numbers in ROWS + POSITIVE:
            for word in words_to(5):
                for n in range(3):
                    expected = tuple(w for w in sorted(words_to(5)) if are_alike(numbers, word, w, n))
                    self.assertEqual(alike_words(numbers, word, n), expected)
                    self.assertIn(word, expected)
        self.assertEqual(alike_words(Numbers.steady(1, 1), "", 0), ("",))
        self.assertEqual(alike_words(Numbers.steady(1, 1), "ddu", 1), ("ddu",))
        self.assertEqual(alike_words(Numbers.steady(1, 1), "ddu", 0), ("ddu", "dud", "udd"))
        found = alike_words(Numbers.steady(1, 1), "uudduuddud", 1)
        self.assertTrue(all_tuples(found))
        self.assertEqual(list(found), sorted(set(found)))
        dipping = alike_words(Numbers.steady(1, 1), "dduuuuuddd", 1)
        self.assertTrue(all(dips(word, 1) for word in dipping))

    def test_limit(self):
        one = Numbers.steady(1, 1)
        self.assertIn("u" * 10, alike_words(one, "u" * 10, 0))
        self.refused(TooMany, {"limit": 10}, alike_words, one, "u" * 11, 0)
        self.refused(BadRank, {"rank": -1}, alike_words, one, "u" * 11, -1)
        self.refused(BadWord, {"at": 11}, alike_words, one, "u" * 11 + "x", 0)

    def test_forms(self):
        numbers = Numbers([(1, 1), (1, 0)])
        for call in (are_alike, apart_start, same_everywhere):
            self.refused(BadWord, {"at": -1}, call, numbers, 5, 5, -1)
            self.refused(BadWord, {"at": 0}, call, numbers, "x", 5, -1)
            self.refused(BadWord, {"at": 1}, call, numbers, "u", "ux", -1)
            for rank in (-1, True, None):
                self.refused(BadRank, {"rank": rank}, call, numbers, "u", "d", rank)
        for rank in (-1, True, None):
            self.refused(BadRank, {"rank": rank}, alike_words, numbers, "u", rank)
        self.refused(BadWord, {"at": -1}, alike_words, numbers, None, -1)

    def test_positive_numbers_are_needed(self):
        for numbers, rank in ((Numbers([(1, 1), (1, 0)]), 1), (Numbers([(1, 1), (1, 2)], tail=(1, -1)), 2),
                              (Numbers.steady(1, 0), 0), (Numbers([(1, 5), (1, 0), (1, -1)], tail=(1, 0)), 1),
                              (Numbers([(1, 1)] * 20 + [(1, 0)]), 20)):
            for v, w in (("u", "u"), ("u", "d"), ("", "ud")):
                self.refused(NotPositive, {"rank": rank}, apart_start, numbers, v, w, 0)


if __name__ == "__main__":
    unittest.main()
