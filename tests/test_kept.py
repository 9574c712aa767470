import unittest
from unittest import mock

from upsanddowns.errors import BadPlace, BadRank, BadTable, BadWord, NotKept, Unseen
from upsanddowns.joins import beside, exchanged, raised_by
from upsanddowns.judging import above, below, breach
from upsanddowns.kept import Kept
from upsanddowns.numbers import Numbers
from upsanddowns.walks import count
from upsanddowns.webs import Web

from tests.helpers import Errors, all_kept, any_webs, places_of, words_to


class MakingTest(Errors, unittest.TestCase):
    def test_attributes(self):
        for kept in all_kept():
            web, numbers = kept.web, kept.numbers
            self.assertIsInstance(web, Web)
            self.assertIsInstance(numbers, Numbers)
            self.assertEqual((kept.sizes, kept.top), (web.sizes, web.top))
            self.assertIs(kept.lively, numbers.lively_to(web.top))
            for n in range(web.top):
                self.assertIsNone(breach(web, n, *numbers[n]))
                self.assertEqual(
                    above(web, n),
                    tuple(
                        tuple(numbers[n][0] * entry + numbers[n][1] * (x == y) for y, entry in enumerate(row))
                        for x, row in enumerate(below(web, n))
                    ),
                )

    def test_numbers_as_told(self):
        numbers = Numbers([(7, 1), (1, 1)], tail=(0, -5))
        self.assertEqual(Kept(Web.shapes(1), numbers).numbers, numbers)

    def test_lively(self):
        self.assertIs(Kept(Web.subsets(3), Numbers.falling(3)).lively, False)
        self.assertIs(Kept(Web.subsets(3).cut(2), Numbers.falling(3)).lively, True)
        self.assertIs(Kept(Web([], sizes=[1]), Numbers([(1, 0)])).lively, True)

    def test_not_kept(self):
        self.refused(NotKept, {"rank": 0, "first": 0, "second": 1}, Kept, Web([[[1], [2]]]), Numbers([]))
        for web in any_webs():
            for numbers in (Numbers.steady(1, 1), Numbers.steady(0, 2), Numbers.falling(3)):
                faults = [(n, breach(web, n, *numbers[n])) for n in range(web.top)]
                faults = [(n, fault) for n, fault in faults if fault is not None]
                if faults:
                    n, (x, y) = faults[0]
                    self.refused(NotKept, {"rank": n, "first": x, "second": y}, Kept, web, numbers)
                else:
                    Kept(web, numbers)

    def test_equality(self):
        one = Kept(Web.shapes(2), Numbers.steady(1, 1))
        self.assertTrue(one == Kept(Web.shapes(2), Numbers([], tail=(1, 1))))
        self.assertTrue(one == Kept(Web.shapes(2), Numbers([(1, 1)] * 3, tail=(4, 5))))
        self.assertFalse(one == Kept(Web.shapes(2), Numbers([(1, 1)] * 2, tail=(4, 5))))
        self.assertFalse(one == Kept(Web.shapes(2), Numbers([(2, 1)])))
        self.assertFalse(one == Kept(Web.shapes(3), Numbers.steady(1, 1)))
        self.assertTrue(one != Kept(Web.shapes(1), Numbers.steady(1, 1)))
        for other in (None, 1, one.web, one.numbers, (one.web, one.numbers), mock.ANY):
            self.assertIs(one.__eq__(other), False)


class AskingTest(Errors, unittest.TestCase):
    def test_tables_and_counts(self):
        for kept in all_kept():
            for n in range(kept.top + 1):
                self.assertEqual(kept.below(n), below(kept.web, n))
                if n < kept.top:
                    self.assertEqual(kept.above(n), above(kept.web, n))
                self.assertEqual(kept.pair_at(n), kept.numbers[n])
        kept = all_kept()[0]
        for place in places_of(kept.web):
            for word in words_to(2):
                for other in places_of(kept.web):
                    if place[0] + 2 <= kept.top:
                        self.assertEqual(kept.count(place, word, other), count(kept.web, place, word, other))
        self.assertEqual(kept.pair_at(10 ** 20), (1, 1))

    def test_refused(self):
        kept = Kept(Web.shapes(2), Numbers.steady(1, 1))
        for rank in (-1, 3, True, None):
            self.refused(BadRank, {"rank": rank}, kept.below, rank)
            self.refused(BadRank, {"rank": rank}, kept.above, rank)
            self.refused(BadRank, {"rank": rank}, kept.cut, rank)
        self.refused(Unseen, {"rank": 3}, kept.above, 2)
        for rank in (-1, True, None):
            self.refused(BadRank, {"rank": rank}, kept.pair_at, rank)
        self.refused(BadPlace, {"rank": -1, "place": 5}, kept.count, 5, "x", 5)
        self.refused(BadWord, {"at": 0}, kept.count, (0, 0), "x", 5)
        self.refused(BadPlace, {"rank": 0, "place": 1}, kept.count, (0, 0), "uuuu", (0, 1))
        self.refused(Unseen, {"rank": 3}, kept.count, (0, 0), "uuud", (2, 1))


class OthersTest(Errors, unittest.TestCase):
    def test_cut(self):
        for kept in all_kept():
            for n in range(kept.top + 1):
                other = kept.cut(n)
                self.assertEqual((other.web, other.numbers), (kept.web.cut(n), kept.numbers))

    def test_grown(self):
        kept = Kept(Web.shapes(1), Numbers.steady(1, 1))
        self.assertEqual(kept.grown([[1, 1]]).web, Web.shapes(2))
        self.assertEqual(kept.grown([[1]], [[2]]).web, Web([[[1]], [[1]]], downs=[[[1]], [[2]]]))
        self.assertEqual(kept.grown([[1, 1]]).numbers, kept.numbers)
        for ups in (None, [], [[1], [1]], [[-1]]):
            self.refused(BadTable, {"rank": 1, "side": "ups"}, kept.grown, ups, 5)
        self.refused(BadTable, {"rank": 1, "side": "downs"}, kept.grown, [[1]], [[1, 1]])
        self.refused(NotKept, {"rank": 1, "first": 0, "second": 0}, kept.grown, [[1]])
        self.refused(NotKept, {"rank": 1, "first": 0, "second": 0}, kept.grown, [[]])
        for one in all_kept():
            for n in range(one.top):
                if one.sizes[n] > 0:
                    self.assertEqual(one.cut(n).grown(one.web.ups[n], one.web.downs[n]), one.cut(n + 1))

    def test_exchanged(self):
        for kept in all_kept():
            other = kept.exchanged()
            self.assertEqual((other.web, other.numbers), (exchanged(kept.web), kept.numbers))
            self.assertEqual(other.exchanged(), kept)

    def test_exchanged_keeps_the_same(self):
        for web in any_webs():
            for n in range(web.top):
                for q in range(3):
                    for r in range(-2, 3):
                        self.assertIs(breach(web, n, q, r) is None, breach(exchanged(web), n, q, r) is None)

    def test_beside(self):
        one = Kept(Web.shapes(3), Numbers.steady(1, 1))
        two = Kept(Web.words(5), Numbers([(1, 1)] * 5, tail=(3, 3)))
        self.assertEqual(one.beside(two).web, beside(one.web, two.web))
        self.assertEqual(one.beside(two).numbers, one.numbers)
        self.assertEqual(two.beside(one).numbers, two.numbers)
        other = Kept(raised_by(Web.shapes(2), 1), Numbers([(7, 7)]))
        self.refused(NotKept, {"rank": 0, "first": -1, "second": -1}, one.beside, other)
        shorter = Kept(Web.subsets(1).empty_rank(), Numbers.falling(1))
        self.refused(NotKept, {"rank": 1, "first": -1, "second": -1}, one.beside, shorter)
        self.assertEqual(Kept(Web.shapes(0), Numbers([(5, 5)])).beside(one).sizes, (2,))

    def test_beside_keeps_what_both_keep(self):
        webs = any_webs()
        for one in webs:
            for two in webs:
                web = beside(one, two)
                for n in range(web.top):
                    for q in range(2):
                        for r in range(-1, 3):
                            both = breach(one, n, q, r) is None and breach(two, n, q, r) is None
                            self.assertIs(breach(web, n, q, r) is None, both)

    def test_raised_keeps_raised(self):
        for kept in all_kept():
            for many in range(3):
                Kept(raised_by(kept.web, many), kept.numbers.raised(many, (6, -7)))


if __name__ == "__main__":
    unittest.main()
