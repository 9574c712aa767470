import unittest
from itertools import combinations

from upsanddowns.errors import BadNumber, BadNumbers, BadPlace, BadRank
from upsanddowns.joins import beside, exchanged, pair_of, place_of, product, raised_by, thick
from upsanddowns.walks import count
from upsanddowns.webs import Web
from upsanddowns.words import parted

from tests.helpers import (
    Errors, any_webs, heights_of, places_at, places_of, random_even, random_web, stays, words_to,
)


class BesideTest(unittest.TestCase):
    def test_one_and_several(self):
        one, two, three = random_web(1, [1, 2, 2]), random_web(2, [2, 1, 3, 2]), random_web(3, [0, 2, 1])
        self.assertEqual(beside(one), one)
        self.assertEqual(beside(one, two, three), beside(beside(one, two), three))
        self.assertEqual(beside(one, two).sizes, (3, 3, 5))

    def test_tables(self):
        web = beside(Web([[[1, 2]]]), Web([[[3], [4]], [[5]]]))
        self.assertEqual(web.ups, (((1, 2, 0), (0, 0, 3), (0, 0, 4)),))
        self.assertEqual(beside(Web([], sizes=[2]), Web([[[3], [4]]])), Web([], sizes=[4]))

    def test_counts(self):
        one, two = random_web(1, [1, 2, 2]), random_web(2, [2, 1, 3, 2])
        web = beside(one, two)
        for rank, x in places_of(web):
            for word in words_to(4):
                if stays(web, rank, word):
                    last = heights_of(rank, word)[-1]
                    for y in range(web.sizes[last]):
                        self.assertEqual(count(web, (rank, x), word, (last, y)), self.single(one, two, rank, x, word, last, y))

    def single(self, one, two, rank, x, word, last, y):
        first, second = x < one.sizes[rank], y < one.sizes[last]
        if first != second:
            return 0
        if first:
            return count(one, (rank, x), word, (last, y))
        return count(two, (rank, x - one.sizes[rank]), word, (last, y - one.sizes[last]))


class ProductTest(Errors, unittest.TestCase):
    def test_order_of_places(self):
        one, two = random_web(1, [2, 3, 1]), random_web(2, [1, 2, 2, 1])
        web = product(one, two)
        self.assertEqual(web.top, 2)
        for n in range(3):
            rows = [(i, x, z) for i in range(n + 1) for x in range(one[i]) for z in range(two[n - i])]
            self.assertEqual(web[n], len(rows))
            for number, (i, x, z) in enumerate(rows):
                self.assertEqual(place_of(one, two, (i, x), [n - i, z]), (n, number))
                self.assertEqual(pair_of(one, two, [n, number]), ((i, x), (n - i, z)))

    def test_strands(self):
        one, two = random_web(5, [2, 3, 1]), random_web(6, [1, 2, 2])
        web = product(one, two)
        for n in range(web.top):
            for low in range(web[n]):
                for high in range(web[n + 1]):
                    (a, b), (c, d) = pair_of(one, two, (n, low)), pair_of(one, two, (n + 1, high))
                    for tables, first, second in ((web.ups, one.ups, two.ups), (web.downs, one.downs, two.downs)):
                        expected = 0
                        if b == d and c[0] == a[0] + 1:
                            expected = first[a[0]][a[1]][c[1]]
                        if a == c and d[0] == b[0] + 1:
                            expected = second[b[0]][b[1]][d[1]]
                        self.assertEqual(tables[n][low][high], expected)

    def test_counts(self):
        for one, two in ((random_web(5, [1, 2, 1]), random_web(6, [1, 2, 2])), (Web.shapes(2), Web.subsets(2)),
                         (random_web(7, [0, 2, 1]), random_web(8, [2, 1, 1]))):
            web = product(one, two)
            for rank, x in places_of(web):
                for word in words_to(4):
                    if stays(web, rank, word):
                        for other in places_at(web, heights_of(rank, word)[-1]):
                            self.assertEqual(
                                count(web, (rank, x), word, other), self.by_choices(one, two, (rank, x), word, other)
                            )

    def by_choices(self, one, two, place, word, other):
        (a, b), (c, d) = pair_of(one, two, place), pair_of(one, two, other)
        total = 0
        for many in range(len(word) + 1):
            for chosen in combinations(range(len(word)), many):
                first, second = parted(word, chosen)
                if min(heights_of(a[0], first)) >= 0 and min(heights_of(b[0], second)) >= 0:
                    total += count(one, a, first, c) * count(two, b, second, d)
        return total

    def test_tops_and_empty_webs(self):
        self.assertEqual(product(Web([], sizes=[2]), Web([[[3], [4]]])), Web([], sizes=[4]))
        self.assertEqual(product(Web([[]], sizes=[0, 0]), Web.shapes(2)).sizes, (0, 0))
        self.assertEqual(product(Web([[[]]], sizes=[1, 0]), Web.shapes(2)).sizes, (1, 1))
        for web in any_webs():
            point = Web([[[]]] + [[]] * (web.top - 1), sizes=[1] + [0] * web.top) if web.top > 0 else Web([], sizes=[1])
            self.assertEqual(product(point, web), web)
            self.assertEqual(product(web, point), web)
        even = product(random_even(1, [1, 2, 2]), random_even(2, [2, 1, 2]))
        self.assertTrue(even.is_even)

    def test_place_of_refused(self):
        one, two = Web.shapes(2), Web.shapes(3)
        self.refused(BadPlace, {"rank": -1, "place": 5}, place_of, one, two, 5, None)
        self.refused(BadRank, {"rank": 3}, place_of, one, two, (3, 0), None)
        self.refused(BadPlace, {"rank": 1, "place": 1}, place_of, one, two, (1, 1), None)
        self.refused(BadPlace, {"rank": -1, "place": (0,)}, place_of, one, two, (2, 1), (0,))
        self.refused(BadRank, {"rank": 4}, place_of, one, two, (2, 1), (4, 0))
        self.refused(BadPlace, {"rank": 3, "place": 3}, place_of, one, two, (2, 1), (3, 3))
        self.refused(BadRank, {"rank": 3}, place_of, one, two, (2, 1), (1, 0))
        self.refused(BadRank, {"rank": 3}, place_of, two, one, (3, 1), (0, 0))
        self.assertEqual(place_of(one, two, (0, 0), (2, 1)), (2, 1))

    def test_pair_of_refused(self):
        one, two = Web.shapes(2), Web.shapes(3)
        size = product(one, two).sizes[2]
        for place in (None, 5, (1,), "00"):
            self.refused(BadPlace, {"rank": -1, "place": place}, pair_of, one, two, place)
        for rank in (-1, 3, True):
            self.refused(BadRank, {"rank": rank}, pair_of, one, two, (rank, 0))
        for number in (-1, size, True):
            self.refused(BadPlace, {"rank": 2, "place": number}, pair_of, one, two, (2, number))
        self.assertEqual(pair_of(one, two, (2, size - 1)), ((2, 1), (0, 0)))


class OthersTest(Errors, unittest.TestCase):
    def test_exchanged(self):
        for web in any_webs():
            other = exchanged(web)
            self.assertEqual((other.sizes, other.ups, other.downs), (web.sizes, web.downs, web.ups))
            self.assertEqual(exchanged(other), web)

    def test_raised_by(self):
        for web in any_webs():
            for many in range(3):
                other = raised_by(web, many)
                self.assertEqual(other.sizes, (0,) * many + web.sizes)
                self.assertEqual(other.ups[many:], web.ups)
                self.assertEqual(other.downs[many:], web.downs)
                for rank, x in places_of(web):
                    for word in words_to(3):
                        if stays(web, rank, word):
                            for _, y in places_at(web, heights_of(rank, word)[-1]):
                                last = heights_of(rank, word)[-1]
                                self.assertEqual(
                                    count(other, (rank + many, x), word, (last + many, y)),
                                    count(web, (rank, x), word, (last, y)),
                                )

    def test_raised_by_refused(self):
        for many in (-1, True, None, "1", 1.0):
            self.refused(BadNumber, {"name": "many"}, raised_by, Web.shapes(2), many)

    def test_thick(self):
        web = random_web(4, [2, 2, 3, 1])
        rows = [(2, 3), [1, 5], (7, 1)]
        other = thick(web, rows)
        for rank, x in places_of(web):
            for word in words_to(4):
                if stays(web, rank, word):
                    scale, height = 1, rank
                    for letter in word:
                        scale *= rows[height][0] if letter == "u" else rows[height - 1][1]
                        height += 1 if letter == "u" else -1
                    for end in places_at(web, height):
                        self.assertEqual(count(other, (rank, x), word, end), scale * count(web, (rank, x), word, end))

    def test_thick_without_ranks(self):
        self.assertEqual(thick(Web([], sizes=[3]), []), Web([], sizes=[3]))
        self.assertEqual(thick(Web([[]], sizes=[0, 2]), ((2, 2),)), Web([[]], sizes=[0, 2]))

    def test_thick_refused(self):
        web = Web.shapes(2)
        for rows in (None, 5, "ab", [], [(1, 1)], [(1, 1)] * 3, {0: (1, 1), 1: (1, 1)}):
            self.refused(BadNumbers, {"at": -1}, thick, web, rows)
        for pair in (None, 5, (1,), (1, 1, 1), (0, 1), (1, 0), (True, 1), (1, True), ("1", 1), "11"):
            self.refused(BadNumbers, {"at": 1}, thick, web, [(1, 1), pair])
            self.refused(BadNumbers, {"at": 0}, thick, web, [pair, None])


if __name__ == "__main__":
    unittest.main()
