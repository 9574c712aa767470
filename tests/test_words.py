import unittest

from upsanddowns.errors import BadLot, BadRank, BadWord
from upsanddowns.words import check_word, climb, dips, heights, parted, rise, turned

from tests.helpers import Errors, heights_of, words_to

WRONG = [(None, -1), (5, -1), (b"ud", -1), (["u"], -1), (("u", "d"), -1), (True, -1), ("x", 0), ("uU", 1),
         ("ud d", 2), ("udD", 2), ("uu\n", 2), ("dddx.", 3)]


class WordsTest(Errors, unittest.TestCase):
    def test_check_word(self):
        for word in words_to(4):
            self.assertEqual(check_word(word), word)

    def test_bad_words(self):
        for word, at in WRONG:
            for call in (check_word, rise, turned):
                self.refused(BadWord, {"at": at}, call, word)
            for call in (heights, dips, climb):
                self.refused(BadWord, {"at": at}, call, word, -1)
            self.refused(BadWord, {"at": at}, parted, word, 5)

    def test_bad_ranks(self):
        for rank in (-1, True, None, "0", 1.0):
            for call in (heights, dips, climb):
                self.refused(BadRank, {"rank": rank}, call, "ud", rank)

    def test_rise_and_heights(self):
        for word in words_to(6):
            for rank in (0, 1, 2, 5):
                row = heights_of(rank, word)
                self.assertEqual(heights(word, rank), tuple(row))
                self.assertEqual(len(heights(word, rank)), len(word) + 1)
                self.assertEqual(rise(word), row[-1] - rank)
                self.assertIs(dips(word, rank), min(row) < 0)
                self.assertEqual(climb(word, rank), max(row))

    def test_empty_word(self):
        self.assertEqual([rise(""), heights("", 3), dips("", 0), climb("", 3), turned("")], [0, (3,), False, 3, ""])

    def test_great_rank(self):
        self.assertEqual(climb("udu", 10 ** 20), 10 ** 20 + 1)

    def test_turned(self):
        self.assertEqual(turned("uud"), "udd")
        self.assertEqual(turned("ud"), "ud")
        self.assertEqual(turned("uu"), "dd")
        for word in words_to(6):
            other = turned(word)
            self.assertEqual(turned(other), word)
            self.assertEqual(rise(other), -rise(word))
            if not dips(word, 2):
                self.assertEqual(heights(other, 2 + rise(word)), heights(word, 2)[::-1])

    def test_parted(self):
        self.assertEqual(parted("uudd", [2, 0]), ("ud", "ud"))
        self.assertEqual(parted("uudd", (3, 2)), ("dd", "uu"))
        self.assertEqual(parted("uudd", []), ("", "uudd"))
        self.assertEqual(parted("", ()), ("", ""))
        self.assertEqual(parted("udu", [0, 1, 2]), ("udu", ""))

    def test_parted_refused(self):
        for chosen in (None, 3, "01", {0: 1}, {0}):
            self.refused(BadLot, {"at": -1}, parted, "uudd", chosen)
        for chosen, at in (([4], 0), ([-1], 0), ([0, True], 1), ([0, 1, 0], 2), ([0, None, 9], 1), ([[0]], 0),
                           ((3, 2, 3, 9), 2), (["0"], 0), ([0.0], 0)):
            self.refused(BadLot, {"at": at}, parted, "uudd", chosen)
        self.refused(BadLot, {"at": 0}, parted, "", [0])


if __name__ == "__main__":
    unittest.main()
