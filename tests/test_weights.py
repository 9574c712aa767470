import random
import unittest
from functools import reduce
from math import gcd

from upsanddowns.joins import beside, raised_by
from upsanddowns.walks import count
from upsanddowns.webs import Web
from upsanddowns.weights import is_balanced, ring_apart, weights
from upsanddowns.words import turned

from tests.helpers import all_kept, any_webs, heights_of, places_at, places_of, random_even, random_web, stays, words_to


def ties(web):
    """For each place the places tied to it, as (place, strands to it, strands from it)."""
    found = {place: [] for place in places_of(web)}
    for n in range(web.top):
        for x in range(web[n]):
            for y in range(web[n + 1]):
                up, down = web.ups[n][x][y], web.downs[n][x][y]
                if up or down:
                    found[(n, x)].append(((n + 1, y), up, down))
                    found[(n + 1, y)].append(((n, x), down, up))
    return found


def pieces(web):
    near, left, found = ties(web), set(places_of(web)), []
    while left:
        piece, queue = set(), [min(left)]
        while queue:
            place = queue.pop()
            if place not in piece:
                piece.add(place)
                queue.extend(other for other, _, _ in near[place])
        left -= piece
        found.append(piece)
    return found


def balanced_web(seed, sizes):
    """A web made to have the weights that are told with it."""
    dice = random.Random(seed)
    told = [[dice.choice([1, 2, 3, 4, 6, 10]) for _ in range(size)] for size in sizes]
    ups, downs = [], []
    for n, (one, two) in enumerate(zip(sizes, sizes[1:])):
        table = [[dice.choice([0, 1, 1, 2]) for _ in range(two)] for _ in range(one)]
        ups.append([[k * told[n][x] for k in row] for x, row in enumerate(table)])
        downs.append([[k * told[n + 1][y] for y, k in enumerate(row)] for row in table])
    return Web(ups, downs=downs, sizes=sizes)


class WeightsTest(unittest.TestCase):
    def check(self, web):
        rows = weights(web)
        self.assertIs(is_balanced(web), rows is not None)
        self.assertIs(ring_apart(web) is None, rows is not None)
        if rows is None:
            return self.check_apart(web, ring_apart(web))
        self.assertEqual(tuple(len(row) for row in rows), web.sizes)
        self.assertTrue(all(type(one) is int and one >= 1 for row in rows for one in row))
        for n in range(web.top):
            for x in range(web[n]):
                for y in range(web[n + 1]):
                    self.assertEqual(web.ups[n][x][y] * rows[n + 1][y], web.downs[n][x][y] * rows[n][x])
        for piece in pieces(web):
            self.assertEqual(reduce(gcd, [rows[n][x] for n, x in piece]), 1)

    def check_apart(self, web, found):
        alone = [
            (n, x, y) for n in range(web.top) for x in range(web[n]) for y in range(web[n + 1])
            if (web.ups[n][x][y] == 0) != (web.downs[n][x][y] == 0)
        ]
        if alone:
            return self.assertEqual(found, alone[0])
        self.assertGreaterEqual(len(found), 4)
        self.assertEqual(len(set(found)), len(found))
        near, out, back = ties(web), 1, 1
        for one, two in zip(found, found[1:] + found[:1]):
            self.assertIsInstance(one, tuple)
            steps = [step for step in near[one] if step[0] == two]
            self.assertEqual(len(steps), 1)
            out, back = out * steps[0][1], back * steps[0][2]
        self.assertNotEqual(out, back)

    def test_any_webs(self):
        for web in any_webs() + [kept.web for kept in all_kept()]:
            self.check(web)
        for seed in range(40):
            self.check(random_web(seed, [2, 2, 3], most=2))

    def test_even_webs(self):
        for seed in range(10):
            web = random_even(seed, [2, 3, 0, 2, 2])
            self.assertEqual(weights(web), tuple((1,) * size for size in web.sizes))
            self.assertIsNone(ring_apart(web))

    def test_balanced_webs(self):
        for seed in range(20):
            web = balanced_web(seed, [2, 3, 2, 3])
            self.assertTrue(is_balanced(web))
            self.check(web)

    def test_counts_both_ways(self):
        for seed in range(3):
            web = balanced_web(seed, [2, 2, 2])
            rows = weights(web)
            for n, x in places_of(web):
                for word in words_to(4):
                    if stays(web, n, word):
                        for m, y in places_at(web, heights_of(n, word)[-1]):
                            self.assertEqual(
                                rows[m][y] * count(web, (n, x), word, (m, y)),
                                rows[n][x] * count(web, (m, y), turned(word), (n, x)),
                            )

    def test_rings(self):
        square = Web([[[1, 1], [1, 2]]], downs=[[[1, 1], [1, 1]]])
        self.assertIsNone(weights(square))
        self.check(square)
        for seed in range(60):
            web = balanced_web(seed, [2, 3, 3, 2])
            dice = random.Random(seed)
            downs = [[list(row) for row in table] for table in web.downs]
            n = dice.randrange(3)
            x, y = dice.randrange(web[n]), dice.randrange(web[n + 1])
            downs[n][x][y] *= 3
            self.check(Web(web.ups, downs=downs))

    def test_one_sort_alone(self):
        web = Web([[[1, 0], [0, 1]]], downs=[[[1, 1], [0, 1]]])
        self.assertEqual(ring_apart(web), (0, 0, 1))
        self.assertIsNone(weights(web))
        web = Web([[[1], [1]], [[1]]], downs=[[[2], [1]], [[0]]])
        self.assertEqual(ring_apart(web), (1, 0, 0))

    def test_pieces_apart(self):
        one = Web([[[2, 1]]], downs=[[[1, 1]]])
        self.assertEqual(weights(one), ((2,), (1, 2)))
        self.assertEqual(weights(beside(one, one)), ((2, 2), (1, 2, 1, 2)))
        self.assertEqual(weights(raised_by(one, 1)), ((), (2,), (1, 2)))
        self.assertEqual(weights(Web([[[0]]], downs=[[[0]]])), ((1,), (1,)))
        self.assertEqual(weights(Web([], sizes=[0])), ((),))
        self.assertEqual(weights(Web([[[4]]], downs=[[[6]]])), ((2,), (3,)))

    def test_great_strands(self):
        many = 10 ** 12
        web = Web([[[many, many - 1]], [[many - 3], [1]]], downs=[[[1, many - 2]], [[1], [many]]])
        self.check(web)
        size = 6
        table = [[many - x - y for y in range(size)] for x in range(size)]
        self.check(Web([table] * 3, downs=[[[1] * size] * size] * 3))


if __name__ == "__main__":
    unittest.main()
