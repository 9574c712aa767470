import unittest

from upsanddowns.errors import BadNumber, BadPlace, BadRank, BadTable, BadWord, NoneSuch, NotPositive, Unseen
from upsanddowns.kept import Kept
from upsanddowns.makers import chain
from upsanddowns.normal import told_count
from upsanddowns.numbers import Numbers
from upsanddowns.twosteps import down_up, up_down
from upsanddowns.unseen import OneTable, one_table, same_words
from upsanddowns.webs import Web

from tests.helpers import Errors, MIXED, all_kept, all_tuples, reflected, renumbered, words_to


def zero_qs(numbers, rank):
    return [m for m in range(1, rank + 1) if numbers[m][0] == 0]


class OneTableTest(Errors, unittest.TestCase):
    def test_against_the_web(self):
        seen = 0
        for kept in all_kept():
            for n in range(kept.top):
                zero = zero_qs(kept.numbers, n)
                if zero:
                    self.refused(NotPositive, {"rank": zero[0]}, one_table, kept, n)
                    continue
                seen += 1
                self.check(kept, n, one_table(kept, n))
                self.check(kept, n, OneTable(kept.numbers, n, [list(row) for row in kept.above(n)]))
        self.assertGreater(seen, 40)

    def check(self, kept, n, table):
        self.assertEqual((table.numbers, table.rank), (kept.numbers, n))
        self.assertEqual((table.table_above, table.table_below), (kept.above(n), kept.below(n)))
        self.assertTrue(all_tuples((table.table_above, table.table_below)))
        self.assertEqual(table.size(), kept.sizes[n])
        for k in range(n + 3):
            self.assertEqual(table.down_up(k), down_up(kept, n, k))
            self.assertEqual(table.up_down(k), up_down(kept, n, k))
        for x in range(min(kept.sizes[n], 3)):
            for y in range(min(kept.sizes[n], 3)):
                for word in words_to(4):
                    if word.count("u") == word.count("d"):
                        self.assertEqual(table.count(x, word, y), told_count(kept, (n, x), word, (n, y)))
                    else:
                        self.assertEqual(table.count(x, word, y), 0)

    def test_without_rows(self):
        table = OneTable(Numbers.steady(1, 1), 3, [])
        self.assertEqual((table.size(), table.table_above, table.table_below), (0, (), ()))
        self.assertEqual((table.down_up(2), table.up_down(2)), ((), ()))

    def test_rank_0(self):
        table = OneTable(Numbers([(5, 3)]), 0, [[3, 0], [0, 3]])
        self.assertEqual(table.table_below, ((0, 0), (0, 0)))
        self.assertEqual(table.up_down(2), ((12, 0), (0, 12)))
        for above in ([[3, 1], [0, 3]], [[3, 0], [0, 2]], [[4]]):
            self.refused(NoneSuch, {"rank": 0}, OneTable, Numbers([(5, 3)]), 0, above)
        self.refused(NoneSuch, {"rank": 0}, OneTable, Numbers([(5, -1)]), 0, [[0]])

    def test_none_such(self):
        one = Numbers.steady(1, 1)
        self.assertEqual(OneTable(one, 1, [[2]]).table_below, ((1,),))
        self.refused(NoneSuch, {"rank": 1}, OneTable, one, 1, [[0]])
        self.refused(NoneSuch, {"rank": 1}, OneTable, one, 1, [[3]])
        self.assertEqual(OneTable(one, 1, [[2, 0], [0, 1]]).table_below, ((1, 0), (0, 0)))
        self.refused(NoneSuch, {"rank": 1}, OneTable, one, 1, [[2, 1], [0, 2]])
        two = Numbers([(1, 1), (2, 1)])
        self.assertEqual(OneTable(two, 1, [[3]]).table_below, ((1,),))
        self.refused(NoneSuch, {"rank": 1}, OneTable, two, 1, [[2]])
        self.refused(NoneSuch, {"rank": 1}, OneTable, two, 1, [[3, 1], [1, 3]])
        low = Numbers([(1, -1), (1, 2)])
        self.refused(NoneSuch, {"rank": 1}, OneTable, low, 1, [[1]])
        self.assertEqual(OneTable(low, 1, [[2]]).table_below, ((0,),))
        three = Numbers([(1, 2), (3, 1), (1, 1)])
        self.assertEqual(OneTable(three, 2, [[2]]).down_up(2), ((0,),))
        self.refused(NoneSuch, {"rank": 2}, OneTable, three, 2, [[3]])

    def test_it_is_where_a_web_is(self):
        one = Numbers.steady(1, 1)
        good = []
        for a in range(8):
            try:
                OneTable(one, 3, [[a]])
            except NoneSuch:
                continue
            good.append(a)
        self.assertEqual(good, [1, 2, 3, 4])
        for a in good:
            self.assertEqual(chain(one, 4 - a, 4).sizes[3], 1)
            self.assertEqual(Kept(chain(one, 4 - a, 4), one).above(3), ((a,),))

    def test_forms(self):
        one = Numbers.steady(1, 1)
        for rank in (-1, True, None, "1"):
            self.refused(BadRank, {"rank": rank}, OneTable, one, rank, None)
        for above in (None, 5, "a", [[]], [[1, 2]], [[1], [2]], [[-1]], [[True]], [5], [[1, 2], [3]], {}, [["1"]]):
            self.refused(BadTable, {"rank": 2, "side": "ups"}, OneTable, Numbers.steady(0, 1), 2, above)
        numbers = Numbers([(0, 1), (1, 1), (0, 1), (0, 1)])
        self.refused(NotPositive, {"rank": 2}, OneTable, numbers, 3, [[0]])
        self.refused(NoneSuch, {"rank": 1}, OneTable, numbers, 1, [[0]])
        self.assertEqual(OneTable(numbers, 1, [[2]]).size(), 1)

    def test_questions_refused(self):
        table = OneTable(Numbers.steady(1, 1), 2, [[2, 1], [1, 2]])
        for steps in (-1, True, None):
            self.refused(BadNumber, {"name": "steps"}, table.down_up, steps)
            self.refused(BadNumber, {"name": "steps"}, table.up_down, steps)
        for place in (-1, 2, True, None):
            self.refused(BadPlace, {"rank": 2, "place": place}, table.count, place, 5, 5)
            self.refused(BadPlace, {"rank": 2, "place": place}, table.count, 0, "u", place)
        self.refused(BadWord, {"at": 1}, table.count, 0, "ux", 5)
        self.refused(BadWord, {"at": -1}, table.count, 0, None, 5)

    def test_nothing_is_kept(self):
        above = [[2, 1], [1, 2]]
        table = OneTable(Numbers.steady(1, 1), 2, above)
        above[0][0] = 9
        self.assertEqual(table.table_above, ((2, 1), (1, 2)))

    def test_one_table_refused(self):
        kept = Kept(Web.shapes(2), Numbers.steady(1, 1))
        for rank in (-1, 3, True, None):
            self.refused(BadRank, {"rank": rank}, one_table, kept, rank)
        self.refused(Unseen, {"rank": 3}, one_table, kept, 2)


class SameWordsTest(Errors, unittest.TestCase):
    def test_equal_tables(self):
        one = Numbers.steady(1, 1)
        shapes, others = Kept(Web.shapes(5), one), Kept(Web.words(6), Numbers([(1, 1)] * 7, tail=(3, 3)))
        self.assertEqual([same_words(shapes, n, others, n) for n in range(3)], [True, True, True])
        for n in range(5):
            self.assertIs(same_words(shapes, n, others, n), shapes.above(n) == others.above(n))
        self.assertIs(same_words(shapes, 1, others, 2), False)
        self.assertIs(same_words(shapes, 2, Kept(Web.subsets(3), Numbers.falling(3)), 2), False)

    def test_pairs(self):
        one = Kept(Web([[[1]], [[1]]], downs=[[[1]], [[2]]]), Numbers([(1, 1), (1, 1)]))
        two = Kept(Web([[[1]], [[2]]], downs=[[[1]], [[1]]]), Numbers([(1, 1), (2, 0)]))
        three = Kept(one.web, Numbers([(1, 1), (1, 1), (7, 7)]))
        self.assertEqual(one.above(1), two.above(1))
        self.assertIs(same_words(one, 1, two, 1), False)
        self.assertIs(same_words(one, 0, two, 0), True)
        self.assertIs(same_words(one, 1, three, 1), True)

    def test_same_counts(self):
        kept = reflected(Kept(chain(MIXED, 0, 2), MIXED), 2)
        other = Kept(renumbered(kept.web, 3), MIXED)
        seen = 0
        for n in range(kept.top):
            if same_words(kept, n, other, n):
                seen += 1
                for word in words_to(6):
                    if word.count("u") == word.count("d"):
                        for x in range(kept.sizes[n]):
                            for y in range(kept.sizes[n]):
                                self.assertEqual(
                                    told_count(kept, (n, x), word, (n, y)), told_count(other, (n, x), word, (n, y))
                                )
        self.assertGreater(seen, 1)

    def test_refused(self):
        one = Kept(Web.shapes(2), Numbers.steady(1, 1))
        two = Kept(Web.shapes(3), Numbers.steady(1, 1))
        for rank in (-1, 3, True, None):
            self.refused(BadRank, {"rank": rank}, same_words, one, rank, two, -1)
            self.refused(BadRank, {"rank": rank}, same_words, two, 3, one, rank)
        self.refused(BadRank, {"rank": 4}, same_words, one, 2, two, 4)
        self.refused(Unseen, {"rank": 3}, same_words, one, 2, two, 3)
        self.refused(Unseen, {"rank": 4}, same_words, one, 1, two, 3)
        self.refused(Unseen, {"rank": 3}, same_words, one, 2, two, 1)


if __name__ == "__main__":
    unittest.main()
