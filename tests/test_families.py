import unittest
from math import comb, factorial

from upsanddowns.errors import BadNumber, BadNumbers
from upsanddowns.judging import breach, keeps
from upsanddowns.kept import Kept
from upsanddowns.numbers import Numbers
from upsanddowns.walks import count
from upsanddowns.webs import Web

from tests.helpers import Errors


def shapes(total, most):
    if total == 0:
        return [()]
    return [(k,) + rest for k in range(min(total, most), 0, -1) for rest in shapes(total - k, k)]


def is_taller(low, high):
    if len(high) == len(low) + 1:
        return high == low + (1,)
    if len(high) != len(low):
        return False
    return sorted(b - a for a, b in zip(low, high)) == [0] * (len(low) - 1) + [1]


class FamiliesTest(Errors, unittest.TestCase):
    def same_ties(self, web, layers, tied):
        self.assertEqual(web.sizes, tuple(len(layer) for layer in layers))
        self.assertTrue(web.is_simple)
        for n in range(web.top):
            expected = tuple(tuple(int(tied(a, b)) for b in layers[n + 1]) for a in layers[n])
            self.assertEqual(web.ups[n], expected)

    def test_shapes(self):
        self.assertEqual(Web.shapes(7).sizes, (1, 1, 2, 3, 5, 7, 11, 15))
        for top in range(8):
            self.same_ties(Web.shapes(top), [shapes(n, n) for n in range(top + 1)], is_taller)

    def test_subsets(self):
        for many in range(7):
            layers = [[] for _ in range(many + 1)]
            for bits in range(2 ** many):
                row = tuple(k for k in range(many) if bits >> k & 1)
                layers[len(row)].append(row)
            layers = [sorted(layer) for layer in layers]
            self.same_ties(Web.subsets(many), layers, lambda a, b: set(a) < set(b))
            for n in range(many + 1):
                for x in range(comb(many, n)):
                    self.assertEqual(count(Web.subsets(many), (0, 0), "u" * n, (n, x)), factorial(n))

    def test_spaces(self):
        self.assertEqual(Web.spaces(3).sizes, (1, 7, 7, 1))
        for many in range(4):
            layers = [[] for _ in range(many + 1)]
            for bits in range(2 ** (2 ** many)):
                row = tuple(k for k in range(2 ** many) if bits >> k & 1)
                if 0 in row and all(a ^ b in row for a in row for b in row):
                    layers[len(row).bit_length() - 1].append(row)
            layers = [sorted(layer) for layer in layers]
            self.same_ties(Web.spaces(many), layers, lambda a, b: set(a) < set(b))

    def test_tree(self):
        web = Web.tree([2, 3])
        self.assertEqual(web.sizes, (1, 2, 6))
        self.assertEqual(web.ups, (((1, 1),), ((1, 1, 1, 0, 0, 0), (0, 0, 0, 1, 1, 1))))
        self.assertTrue(web.is_simple)
        self.assertEqual(Web.tree(()).sizes, (1,))
        self.assertEqual(Web.tree([0]).sizes, (1, 0))
        self.assertEqual(Web.tree((2, 0, 3)).sizes, (1, 2, 0, 0))
        self.assertEqual(Web.tree([1, 1]), Web([[[1]], [[1]]]))

    def test_words(self):
        self.assertEqual(Web.words(0), Web([], sizes=[1]))
        self.assertEqual(Web.words(1), Web([[[1]]]))
        self.assertEqual(Web.words(2), Web([[[1]], [[1, 1]]]))
        self.assertEqual(Web.words(3).ups[2], ((1, 1, 0), (1, 0, 1)))
        web = Web.words(8)
        self.assertEqual(web.sizes, (1, 1, 2, 3, 5, 8, 13, 21, 34))
        for n in range(1, 8):
            for x in range(web.sizes[n]):
                copied = tuple(web.ups[n - 1][z][x] for z in range(web.sizes[n - 1]))
                alone = tuple(int(x == y) for y in range(web.sizes[n]))
                self.assertEqual(web.ups[n][x], copied + alone)

    def test_refused(self):
        for call, name, most in ((Web.shapes, "top", 7), (Web.subsets, "many", 6), (Web.spaces, "many", 3),
                                 (Web.words, "top", 8)):
            for one in (-1, most + 1, True, None, "1", 1.0, [1]):
                self.refused(BadNumber, {"name": name}, call, one)
            self.assertEqual(call(most).top, most)
            self.assertEqual(call(0), Web([], sizes=[1]))
        for children in (None, 3, "12", {}, Web.shapes(2)):
            self.refused(BadNumbers, {"at": -1}, Web.tree, children)
        for one in (-1, True, None, "1", [1]):
            self.refused(BadNumbers, {"at": 1}, Web.tree, [2, one, -1])

    def test_what_they_keep(self):
        for many in range(7):
            web = Web.subsets(many)
            Kept(web, Numbers.falling(many))
            Kept(web.empty_rank(), Numbers.falling(many))
            self.assertEqual(Numbers.falling(many)[many], (1, -many))
        Kept(Web.shapes(7), Numbers.steady(1, 1))
        Kept(Web.words(8), Numbers.steady(1, 1))
        for many in range(4):
            for n in range(many):
                r = (2 ** (many - n) - 1) - (2 ** n - 1)
                self.assertIs(keeps(Web.spaces(many), n, 1, r), True)
        children = [2, 3, 1, 2]
        for n, many in enumerate(children):
            self.assertIsNone(breach(Web.tree(children), n, 0, many))


if __name__ == "__main__":
    unittest.main()
