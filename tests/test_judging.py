import random
import unittest

from upsanddowns.errors import BadNumber, BadRank, NotKept, Unseen
from upsanddowns.joins import exchanged
from upsanddowns.judging import Judged, above, below, breach, judge, keeps, read_numbers
from upsanddowns.kept import Kept
from upsanddowns.numbers import Numbers
from upsanddowns.walks import count
from upsanddowns.webs import Web

from tests.helpers import Errors, all_kept, all_tuples, any_webs, places_at, random_even, random_web


def slow_breach(web, rank, q, r):
    for x in range(web[rank]):
        for y in range(web[rank]):
            one = count(web, (rank, x), "ud", (rank, y))
            two = count(web, (rank, x), "du", (rank, y))
            if one != q * two + (r if x == y else 0):
                return (x, y)
    return None


class TablesTest(Errors, unittest.TestCase):
    def test_they_are_counts(self):
        for web in any_webs():
            for rank in range(web.top + 1):
                places = places_at(web, rank)
                low = tuple(tuple(count(web, x, "du", y) for y in places) for x in places)
                self.assertEqual(below(web, rank), low)
                self.assertTrue(all_tuples(below(web, rank)))
                if rank < web.top:
                    high = tuple(tuple(count(web, x, "ud", y) for y in places) for x in places)
                    self.assertEqual(above(web, rank), high)

    def test_rank_0_and_empty_ranks(self):
        self.assertEqual(below(Web([], sizes=[2]), 0), ((0, 0), (0, 0)))
        self.assertEqual(below(Web([[]], sizes=[0, 2]), 1), ((0, 0), (0, 0)))
        self.assertEqual(below(Web([[[], []]]), 1), ())
        self.assertEqual(above(Web([[[], []]]), 0), ((0, 0), (0, 0)))
        self.assertEqual(above(Web([[]], sizes=[0, 2]), 0), ())

    def test_exchanged(self):
        for web in any_webs():
            other = exchanged(web)
            for rank in range(web.top + 1):
                self.assertEqual(below(other, rank), tuple(zip(*below(web, rank))))
                if rank < web.top:
                    self.assertEqual(above(other, rank), tuple(zip(*above(web, rank))))

    def test_refused(self):
        web = Web.shapes(2)
        for call in (below, above, judge):
            for rank in (-1, 3, True, None, "0"):
                self.refused(BadRank, {"rank": rank}, call, web, rank)
        for call in (above, judge):
            self.refused(Unseen, {"rank": 3}, call, web, 2)
        for call in (breach, keeps):
            for rank in (-1, 3, True, None):
                self.refused(BadRank, {"rank": rank}, call, web, rank, -1, None)
            for one in (-1, True, None, "1"):
                self.refused(BadNumber, {"name": "q"}, call, web, 2, one, None)
            for one in (True, None, "1", 1.0):
                self.refused(BadNumber, {"name": "r"}, call, web, 2, 0, one)
            self.refused(Unseen, {"rank": 3}, call, web, 2, 0, -5)


class BreachTest(unittest.TestCase):
    def test_against_counts(self):
        found = set()
        for web in any_webs() + [kept.web for kept in all_kept()[:4]]:
            for rank in range(web.top):
                for q in range(3):
                    for r in range(-2, 4):
                        fault = breach(web, rank, q, r)
                        self.assertEqual(fault, slow_breach(web, rank, q, r))
                        self.assertIs(keeps(web, rank, q, r), fault is None)
                        found.add(fault is None)
        self.assertEqual(found, {True, False})

    def test_rank_without_places(self):
        web = Web([[], []], sizes=[0, 0, 3])
        self.assertTrue(all(keeps(web, rank, q, r) for rank in (0, 1) for q in (0, 5) for r in (-7, 0, 3)))

    def test_rank_0(self):
        web = Web([[[1, 1]]])
        self.assertTrue(all(keeps(web, 0, q, 2) for q in range(5)))
        self.assertEqual(breach(web, 0, 3, 1), (0, 0))

    def test_one_strand_more(self):
        for kept in all_kept():
            for n in range(kept.top):
                if kept.sizes[n] == 0:
                    continue
                q, r = kept.pair_at(n)
                for x in range(kept.sizes[n]):
                    for y in range(kept.sizes[n + 1]):
                        self.check_one_more(kept.web, n, x, y, q, r)

    def check_one_more(self, web, n, x, y, q, r):
        ups = [[list(row) for row in table] for table in web.ups]
        ups[n][x][y] += 1
        other = Web(ups, downs=web.downs, sizes=web.sizes)
        low, high = below(other, n), above(other, n)
        wrong = {
            (a, b) for a in range(web[n]) for b in range(web[n])
            if high[a][b] != q * low[a][b] + (r if a == b else 0)
        }
        self.assertEqual(wrong, {(x, b) for b in range(web[n]) if web.downs[n][b][y] > 0})
        self.assertIs(keeps(other, n, q, r), not any(row[y] for row in web.downs[n]))


class JudgeTest(Errors, unittest.TestCase):
    def check(self, web, rank):
        judged = judge(web, rank)
        low, high = below(web, rank), above(web, rank)
        size = web[rank]
        kept = {(q, r) for q in range(7) for r in range(-12, 13) if slow_breach(web, rank, q, r) is None}
        for q in range(7):
            for r in range(-12, 13):
                self.assertIs(judged.allows(q, r), (q, r) in kept)
        self.assertEqual(judged.rank, rank)
        if judged.word == "any":
            self.assertEqual((size, judged.pair, judged.places, judged.line), (0, (1, 0), (), None))
        elif judged.word == "line":
            c, s = judged.line
            self.assertEqual(low, tuple(tuple(c * (x == y) for y in range(size)) for x in range(size)))
            self.assertEqual(high, tuple(tuple(s * (x == y) for y in range(size)) for x in range(size)))
            self.assertEqual((judged.pair, judged.places), ((1, s - c), ()))
        elif judged.word == "one":
            self.assertNotEqual(low, tuple(tuple(low[0][0] * (x == y) for y in range(size)) for x in range(size)))
            self.assertTrue(keeps(web, rank, *judged.pair))
            self.assertEqual((judged.places, judged.line), ((), None))
        else:
            self.assertEqual((judged.word, judged.pair, judged.line), ("none", None, None))
            self.check_places(judged.places, low, high, size)
        return judged.word

    def check_places(self, places, low, high, size):
        self.assertIsInstance(places, tuple)
        self.assertIn(len(places), (1, 2, 3))
        for x, y in places:
            self.assertTrue(0 <= x < size and 0 <= y < size)
        # No q that is great meets the equations: only those that a pair of them tells need be tried.
        most = 2 + max(entry for row in high for entry in row)
        for q in range(most):
            left = [high[x][y] - q * low[x][y] for x, y in places if x == y]
            rest = [high[x][y] - q * low[x][y] for x, y in places if x != y]
            self.assertTrue(any(rest) or len(set(left)) > 1)

    def test_many_webs(self):
        words = set()
        for web in any_webs() + [kept.web for kept in all_kept()[:4]]:
            words |= {self.check(web, rank) for rank in range(web.top)}
        for seed in range(300):
            sizes = random.Random(seed).choice([[1, 2, 1], [2, 2, 2], [1, 2, 3], [0, 2, 2], [2, 1, 2], [1, 3, 2]])
            for web in (random_web(seed, sizes, most=2), random_even(seed, sizes, most=1)):
                words |= {self.check(web, rank) for rank in range(web.top)}
        self.assertEqual(words, {"any", "line", "one", "none"})

    def diagonal(self, low, high):
        """The judging of a rank with these entries on the diagonals, 0 elsewhere."""
        size = len(low)
        under = [[low[x] if x == y else 0 for y in range(size)] for x in range(size)]
        unit = [[int(x == y) for y in range(size)] for x in range(size)]
        over = [[high[x] if x == y else 0 for y in range(size)] for x in range(size)]
        return judge(Web([under, over], downs=[unit, unit]), 1)

    def test_diagonals(self):
        self.assertEqual(self.diagonal([2, 2], [5, 5]).line, (2, 5))
        self.assertEqual(self.diagonal([2, 2], [5, 5]).pair, (1, 3))
        self.assertEqual(self.diagonal([2, 2], [5, 6]).word, Judged.NONE)
        self.assertEqual(self.diagonal([1, 2], [5, 8]).pair, (3, 2))
        self.assertEqual(self.diagonal([1, 2], [8, 5]).word, Judged.NONE)
        self.assertEqual(self.diagonal([1, 3], [5, 8]).word, Judged.NONE)
        self.assertEqual(self.diagonal([3, 1], [4, 4]).pair, (0, 4))
        self.assertEqual(self.diagonal([1, 1, 2], [5, 5, 8]).pair, (3, 2))
        self.assertEqual(self.diagonal([1, 1, 2], [5, 6, 8]).word, Judged.NONE)
        self.assertEqual(self.diagonal([1, 2, 4], [5, 8, 14]).pair, (3, 2))
        self.assertEqual(self.diagonal([1, 2, 4], [5, 8, 15]).word, Judged.NONE)
        many = 10 ** 12
        self.assertEqual(self.diagonal([1, 2], [5, 5 + many]).pair, (many, 5 - many))

    def test_words(self):
        self.assertEqual([Judged.ANY, Judged.ONE, Judged.LINE, Judged.NONE], ["any", "one", "line", "none"])
        self.assertEqual(judge(Web.shapes(3), 0).line, (0, 1))
        self.assertEqual(judge(Web([[], []], sizes=[0, 0, 1]), 1).word, "any")

    def test_allows_refused(self):
        for web, rank in ((Web.shapes(3), 2), (Web.shapes(3), 0), (Web([[]], sizes=[0, 1]), 0),
                          (Web([[[1], [2]]]), 0)):
            judged = judge(web, rank)
            for one in (-1, True, None, "1"):
                self.refused(BadNumber, {"name": "q"}, judged.allows, one, None)
            for one in (True, None, "1"):
                self.refused(BadNumber, {"name": "r"}, judged.allows, 0, one)

    def test_made_webs_own_numbers(self):
        self.assertEqual(judge(Web.shapes(4), 2).pair, (1, 1))
        self.assertEqual(judge(Web.shapes(4), 1).word, "line")


class ReadingTest(Errors, unittest.TestCase):
    def test_read(self):
        for kept in all_kept():
            numbers = read_numbers(kept.web)
            self.assertEqual(numbers.tail, (1, 1))
            self.assertEqual([numbers[n] for n in range(kept.top)], [judge(kept.web, n).pair for n in range(kept.top)])
            self.assertEqual(Kept(kept.web, numbers).web, kept.web)
            self.assertLessEqual(len(numbers.pairs), kept.top)
        self.assertEqual(read_numbers(Web.shapes(4)), Numbers.steady(1, 1))
        self.assertEqual(read_numbers(Web([], sizes=[3])), Numbers([]))

    def test_refused(self):
        self.refused(NotKept, {"rank": 0, "first": -1, "second": -1}, read_numbers, Web([[[1], [2]]]))
        web = Web([[[1, 1]], [[1, 0], [0, 2]]])
        self.assertEqual([judge(web, 0).word, judge(web, 1).word], ["line", "none"])
        self.refused(NotKept, {"rank": 1, "first": -1, "second": -1}, read_numbers, web)


if __name__ == "__main__":
    unittest.main()
