import unittest
from unittest import mock

from upsanddowns.errors import BadNumber, BadNumbers, BadRank, BadWord
from upsanddowns.numbers import Numbers, first_not_above, last_alive

from tests.helpers import Errors, all_tuples, heights_of, words_to

ROWS = [
    Numbers.steady(1, 1), Numbers.steady(0, 0), Numbers.steady(2, -3), Numbers.falling(3), Numbers.falling(0),
    Numbers([(1, 2), (0, -1), (3, 1), (1, 0), (2, 5)]), Numbers([(7, -4), (2, 8)], tail=(0, 1)),
    Numbers([(1, 3), (1, -2), (1, -1), (2, 2)], tail=(1, -1)),
]


class MakingTest(Errors, unittest.TestCase):
    def test_pairs_and_tail(self):
        numbers = Numbers([[1, 2], (0, -3)], tail=[2, 5])
        self.assertEqual((numbers.pairs, numbers.tail), (((1, 2), (0, -3)), (2, 5)))
        self.assertEqual([numbers[0], numbers[1], numbers[2], numbers[10 ** 30]], [(1, 2), (0, -3), (2, 5), (2, 5)])
        self.assertEqual(Numbers([]).tail, (1, 1))
        self.assertTrue(all_tuples((numbers.pairs, numbers.tail, numbers[0], numbers[9])))

    def test_pairs_that_equal_the_tail(self):
        self.assertEqual(Numbers([(1, 1), [2, 2], (1, 1), (1, 1)]).pairs, ((1, 1), (2, 2)))
        self.assertEqual(Numbers([(3, 4), [3, 4]], tail=[3, 4]).pairs, ())

    def test_equality(self):
        self.assertTrue(Numbers([(1, 2), (1, 1)]) == Numbers(((1, 2),)))
        self.assertTrue(Numbers([], tail=(1, 2)) == Numbers([(1, 2)], tail=(1, 2)))
        self.assertFalse(Numbers([(1, 2)]) == Numbers([(1, 2)], tail=(1, 2)))
        self.assertTrue(Numbers([(1, 2)]) != Numbers([(1, 3)]))
        self.assertFalse(Numbers([(1, 2)], tail=(1, 3)) == Numbers([(1, 2)], tail=(1, 4)))
        for other in (None, 1, (), ((), (1, 1)), [], mock.ANY):
            self.assertIs(Numbers([]).__eq__(other), False)

    def test_nothing_is_kept(self):
        pairs, tail = [[1, 2]], [3, 4]
        numbers = Numbers(pairs, tail=tail)
        pairs[0][0] = 9
        tail[0] = 9
        self.assertEqual(numbers, Numbers([(1, 2)], tail=(3, 4)))

    def test_refused(self):
        for pairs in (None, 5, "ab", {}, Numbers([])):
            self.refused(BadNumbers, {"at": -1}, Numbers, pairs, tail=5)
        wrong = [None, 5, "11", (1,), (1, 1, 1), (-1, 1), (True, 1), (1, True), (1, None), (1.0, 1), {0: 1, 1: 1}]
        for pair in wrong:
            self.refused(BadNumbers, {"at": 1}, Numbers, [(1, 1), pair, None], tail=5)
            self.refused(BadNumbers, {"at": 2}, Numbers, [(1, 1), (1, 1)], tail=pair)
            self.refused(BadNumbers, {"at": 0}, Numbers, [], tail=pair)
        for rank in (-1, True, None, "0", 1.0):
            self.refused(BadRank, {"rank": rank}, Numbers([]).__getitem__, rank)
        with self.assertRaises(TypeError):
            iter(Numbers([]))

    def test_steady(self):
        self.assertEqual(Numbers.steady(2, -3), Numbers([], tail=(2, -3)))
        for pair in ((-1, 0), (True, 0), (0, True), (None, 1), (1, "1")):
            self.refused(BadNumbers, {"at": 0}, Numbers.steady, *pair)

    def test_falling(self):
        self.assertEqual(Numbers.falling(2), Numbers([(1, 2), (1, 0), (1, -2)], tail=(1, -4)))
        self.assertEqual(Numbers.falling(0), Numbers([(1, 0)], tail=(1, -2)))
        for many in (-1, True, None, "1"):
            self.refused(BadNumber, {"name": "many"}, Numbers.falling, many)

    def test_kinds(self):
        self.assertEqual([n.is_positive for n in ROWS], [True, False, False, False, False, False, False, False])
        self.assertEqual([n.is_plain for n in ROWS], [True, False, False, True, True, False, False, False])
        self.assertIs(Numbers([(1, 1), (0, 2)], tail=(3, 1)).is_positive, True)
        self.assertIs(Numbers([(1, 1)], tail=(1, 0)).is_positive, False)
        self.assertIs(Numbers([(1, 0)]).is_positive, False)
        self.assertIs(Numbers([(1, 0)], tail=(1, -1)).is_plain, True)
        self.assertIs(Numbers([(1, 0)], tail=(2, 1)).is_plain, False)


class GainsTest(Errors, unittest.TestCase):
    def test_gain(self):
        for numbers in ROWS:
            for i in range(5):
                self.assertEqual(numbers.gain(i, 0), 0)
                for k in range(1, 6):
                    q, r = numbers[i + k - 1]
                    self.assertEqual(numbers.gain(i, k), q * numbers.gain(i, k - 1) + r)

    def test_gain_as_a_sum(self):
        for numbers in ROWS:
            for i in range(4):
                for k in range(6):
                    parts = [numbers[j][1] * numbers.swaps(j + 1, i + k - 1 - j) for j in range(i, i + k)]
                    self.assertEqual(numbers.gain(i, k), sum(parts))

    def test_gain_in_parts(self):
        for numbers in ROWS:
            for i in range(4):
                for s in range(4):
                    for t in range(4):
                        parts = numbers.swaps(i + s, t) * numbers.gain(i, s) + numbers.gain(i + s, t)
                        self.assertEqual(numbers.gain(i, s + t), parts)
                for k in range(1, 6):
                    rest = numbers.gain(i, k) - numbers.gain(i + 1, k - 1)
                    self.assertEqual(rest, numbers[i][1] * numbers.swaps(i + 1, k - 1))

    def test_gains_and_swaps(self):
        for numbers in ROWS:
            for i in range(5):
                gains = swaps = 1
                for k in range(6):
                    self.assertEqual((numbers.gains(i, k), numbers.swaps(i, k)), (gains, swaps))
                    gains *= numbers.gain(i, k + 1)
                    swaps *= numbers[i + k][0]

    def test_refused(self):
        for call in (Numbers([]).gain, Numbers([]).gains, Numbers([]).swaps):
            for one in (-1, True, None, "1"):
                self.refused(BadRank, {"rank": one}, call, one, -1)
                self.refused(BadNumber, {"name": "steps"}, call, 0, one)

    def test_val(self):
        for numbers in ROWS:
            for i in range(4):
                for n in range(i, 5):
                    for word in words_to(5):
                        value, row = 1, heights_of(n, word)
                        for h, letter in zip(row, word):
                            if letter == "d":
                                value *= numbers.gain(i, h - i) if h > i else 0
                        self.assertEqual(numbers.val(i, n, word), value)

    def test_val_of_words_joined(self):
        for numbers in ROWS:
            for v in words_to(3):
                for w in words_to(3):
                    for i, n in ((0, 0), (0, 2), (1, 3), (2, 2)):
                        m = heights_of(n, v)[-1]
                        if m >= i:
                            self.assertEqual(
                                numbers.val(i, n, v + w), numbers.val(i, n, v) * numbers.val(i, m, w)
                            )

    def test_val_of_dipping_words(self):
        numbers = Numbers.steady(1, 1)
        self.assertEqual([numbers.val(1, 1, "du"), numbers.val(1, 1, "uuudd"), numbers.val(0, 0, "")], [0, 6, 1])
        self.assertEqual([numbers.val(0, 3, "dddd"), numbers.val(2, 3, "dduu"), numbers.val(2, 2, "uuu")], [0, 0, 1])

    def test_val_refused(self):
        numbers = Numbers([])
        for one in (-1, True, None, "1"):
            self.refused(BadRank, {"rank": one}, numbers.val, one, -2, 5)
            self.refused(BadRank, {"rank": one}, numbers.val, 0, one, 5)
        self.refused(BadRank, {"rank": 1}, numbers.val, 2, 1, 5)
        self.refused(BadWord, {"at": -1}, numbers.val, 2, 2, 5)
        self.refused(BadWord, {"at": 1}, numbers.val, 2, 2, "ux")

    def test_dead_pair(self):
        for numbers in ROWS:
            for n in range(8):
                dead = [
                    (i, end - i) for end in range(1, n + 1) for i in range(end) if numbers.gain(i, end - i) == 0
                ]
                self.assertEqual(numbers.dead_pair(n), dead[0] if dead else None)
                self.assertIs(numbers.lively_to(n), not dead)
        self.assertEqual(Numbers.falling(3).dead_pair(3), (1, 2))
        self.assertEqual(Numbers.falling(3).dead_pair(2), None)
        self.assertEqual(Numbers([(1, 1), (1, -1)]).dead_pair(2), (0, 2))
        self.assertEqual(Numbers([(1, 1), (0, 0)]).dead_pair(2), (0, 2))
        self.assertEqual(Numbers([(1, 0)]).dead_pair(0), None)

    def test_dead_pair_refused(self):
        for call in (Numbers([]).dead_pair, Numbers([]).lively_to):
            for rank in (-1, True, None, "1"):
                self.refused(BadRank, {"rank": rank}, call, rank)

    def test_last_alive(self):
        for numbers in ROWS:
            for i in range(4):
                for most in range(i, i + 6):
                    alive = [m for m in range(i, most + 1) if all(numbers.gain(i, k) for k in range(1, m - i + 1))]
                    self.assertEqual(last_alive(numbers, i, most), max(alive))

    def test_first_not_above(self):
        for numbers in ROWS:
            for i in range(4):
                for most in range(i, i + 6):
                    low = [k for k in range(1, most - i + 1) if numbers.gain(i, k) <= 0]
                    self.assertEqual(first_not_above(numbers, i, most), low[0] if low else None)
        self.assertEqual(first_not_above(Numbers.falling(3), 1, 4), 2)
        self.assertEqual(last_alive(Numbers.falling(3), 1, 4), 2)

    def test_spans_refused(self):
        for call in (last_alive, first_not_above):
            for one in (-1, True, None, "1"):
                self.refused(BadRank, {"rank": one}, call, Numbers([]), one, None)
                self.refused(BadRank, {"rank": one}, call, Numbers([]), 0, one)
            self.refused(BadRank, {"rank": 1}, call, Numbers([]), 2, 1)


class OtherNumbersTest(Errors, unittest.TestCase):
    def test_changed(self):
        for numbers in ROWS:
            for rank in range(7):
                other = numbers.changed(rank, [9, -9])
                for n in range(10):
                    self.assertEqual(other[n], (9, -9) if n == rank else numbers[n])
                self.assertEqual(other.tail, numbers.tail)
                self.assertEqual(other.changed(rank, numbers[rank]), numbers)

    def test_moved(self):
        for numbers in ROWS:
            for many in range(7):
                for n in range(8):
                    self.assertEqual(numbers.moved(many)[n], numbers[n + many])

    def test_raised(self):
        for numbers in ROWS:
            for many in range(4):
                for n in range(10):
                    self.assertEqual(numbers.raised(many, [3, 4])[n], (3, 4) if n < many else numbers[n - many])
                    self.assertEqual(numbers.raised(many)[n], (1, 1) if n < many else numbers[n - many])
                self.assertEqual(numbers.raised(many, pair=(2, 2)).moved(many), numbers)

    def test_refused(self):
        numbers = Numbers([(1, 2)])
        for one in (-1, True, None, "1"):
            self.refused(BadRank, {"rank": one}, numbers.changed, one, 5)
            self.refused(BadNumber, {"name": "many"}, numbers.moved, one)
            self.refused(BadNumber, {"name": "many"}, numbers.raised, one, 5)
        for pair in (None, 5, (1,), (-1, 1), (1, True), (1, 1, 1)):
            self.refused(BadNumbers, {"at": 3}, numbers.changed, 3, pair)
            self.refused(BadNumbers, {"at": 0}, numbers.raised, 0, pair)
            self.refused(BadNumbers, {"at": 0}, numbers.raised, 2, pair)


if __name__ == "__main__":
    unittest.main()
