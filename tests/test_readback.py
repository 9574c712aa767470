import unittest
from fractions import Fraction
from math import prod

from upsanddowns.errors import BadNumber, BadRank, BadReading, NotLively, Unseen
from upsanddowns.kept import Kept
from upsanddowns.levels import parts
from upsanddowns.numbers import Numbers
from upsanddowns.readback import back_row, is_blind, is_image, read_back, seen_from
from upsanddowns.webs import Web

from tests.helpers import Errors, all_kept, all_tuples, fraction, lift, readings_of, sink, slow_rank
from tests.test_numbers import ROWS


def slow_back_row(numbers, n, k):
    """The fractions of point 52, one by one."""
    row = []
    for i in range(n, -1, -1):
        ahead = prod(numbers.gain(i, n - i + l) for l in range(1, k + 1))
        products = [prod(numbers.gain(i, n - i - m) for m in range(j)) for j in range(n - i + 1)]
        told = sum(g * products[j] for j, g in enumerate(row))
        row.append((Fraction(1, ahead) - told) / products[n - i])
    return row


def spans():
    """Kept webs with a rank and steps that do not lead above the top."""
    return [
        (kept, n, k) for kept in all_kept() for n in range(kept.top + 1) for k in range(min(3, kept.top - n) + 1)
    ]


class BackRowTest(Errors, unittest.TestCase):
    def test_rows(self):
        seen = 0
        for numbers in ROWS + [kept.numbers for kept in all_kept()]:
            for n in range(4):
                for k in range(4):
                    pair = numbers.dead_pair(n + k)
                    if pair is not None:
                        self.refused(NotLively, {"start": pair[0], "steps": pair[1]}, back_row, numbers, n, k)
                        continue
                    seen += 1
                    told = back_row(numbers, n, k)
                    self.assertEqual(fraction(told), slow_back_row(numbers, n, k))
                    self.assertTrue(all_tuples(told))
                    self.assertGreaterEqual(told[1], 1)
        self.assertGreater(seen, 100)

    def test_known(self):
        self.assertEqual(back_row(Numbers.falling(3), 1, 1), ((4, -1), 4))
        self.assertEqual(back_row(Numbers.steady(1, 1), 0, 3), ((1,), 6))
        self.assertEqual(back_row(Numbers.steady(1, 1), 2, 0), ((1, 0, 0), 1))
        self.assertEqual(back_row(Numbers.steady(0, -2), 0, 1), ((-1,), 2))

    def test_refused(self):
        flat = Numbers.steady(1, 0)
        for wrong in (-1, True, None):
            self.refused(BadRank, {"rank": wrong}, back_row, flat, wrong, -1)
            self.refused(BadNumber, {"name": "steps"}, back_row, flat, 1, wrong)
        self.refused(NotLively, {"start": 0, "steps": 1}, back_row, flat, 1, 0)
        self.assertEqual(back_row(flat, 0, 0), ((1,), 1))
        self.refused(NotLively, {"start": 0, "steps": 1}, back_row, flat, 0, 1)


class ReadBackTest(Errors, unittest.TestCase):
    def test_what_was_raised(self):
        for kept, n, k in spans():
            for v in readings_of(n + k, kept.sizes[n]):
                seen = seen_from(kept, n, k, list(v))
                self.assertEqual(seen, tuple(lift(kept.web, n, v, k)))
                self.assertTrue(is_image(kept, n, k, seen))
                if kept.numbers.lively_to(n + k):
                    self.assertEqual(read_back(kept, n, k, seen), (v, 1))
                    row = slow_back_row(kept.numbers, n, k)
                    low = sink(kept.web, n + k, seen, k)
                    told = [0] * len(v)
                    for j, g in enumerate(row):
                        back = lift(kept.web, n - j, sink(kept.web, n, low, j), j)
                        told = [one + g * two for one, two in zip(told, back)]
                    self.assertEqual(told, list(v))

    def test_any_readings(self):
        none = some = blind = 0
        for kept, n, k in spans():
            table = [lift(kept.web, n, [int(x == y) for y in range(kept.sizes[n])], k) for x in range(kept.sizes[n])]
            for v in readings_of(n * k + 1, kept.sizes[n + k]):
                image = slow_rank(table + [list(v)]) == slow_rank(table) if v else True
                self.assertIs(is_image(kept, n, k, v), image)
                sunk = not any(sink(kept.web, n + k, v, k))
                self.assertIs(is_blind(kept, n, k, v), sunk)
                blind += sunk and any(v)
                if not kept.numbers.lively_to(n + k):
                    pair = kept.numbers.dead_pair(n + k)
                    self.refused(NotLively, {"start": pair[0], "steps": pair[1]}, read_back, kept, n, k, v)
                    continue
                found = parts(kept, n + k, v)
                self.assertIs(image, not any(any(part[0]) for part in found[n + 1:]))
                self.assertIs(sunk, not any(any(part[0]) for part in found[:n + 1]))
                told = read_back(kept, n, k, v)
                self.assertIs(told is not None, image)
                none += told is None
                if told is not None:
                    some += told[1] > 1
                    self.assertTrue(all_tuples(told))
                    self.assertEqual(lift(kept.web, n, fraction(told), k), list(v))
        self.assertGreater(none, 50)
        self.assertGreater(some, 5)
        self.assertGreater(blind, 2)

    def test_fractions(self):
        kept = Kept(Web.subsets(3), Numbers.falling(3))
        self.assertEqual(read_back(kept, 1, 1, (1, 0, 0)), ((1, 1, -1), 2))
        self.assertEqual(read_back(kept, 0, 1, [3, 3, 3]), ((3,), 1))
        self.assertIsNone(read_back(kept, 0, 1, [3, 3, 2]))
        self.assertTrue(is_image(kept, 1, 1, (1, 0, 0)))
        self.assertFalse(is_image(kept, 0, 1, (1, 0, 0)))
        self.assertTrue(is_blind(kept, 0, 1, (1, -1, 0)))
        self.assertFalse(is_blind(kept, 0, 1, (1, 0, 0)))

    def test_not_lively(self):
        kept = Kept(Web.subsets(3).empty_rank(), Numbers.falling(3))
        self.assertTrue(is_image(kept, 2, 1, (1,)))
        self.assertTrue(is_image(kept, 3, 1, ()))
        self.assertTrue(is_blind(kept, 3, 1, []))
        self.assertFalse(is_blind(kept, 2, 1, (1,)))
        self.assertEqual(seen_from(kept, 2, 2, (1, 2, 3)), ())
        self.refused(NotLively, {"start": 1, "steps": 2}, read_back, kept, 2, 1, (1,))

    def test_no_places(self):
        late = Kept(Web.shapes(1) >> 1, Numbers.steady(1, 1))
        self.assertEqual(read_back(late, 0, 1, (0,)), ((), 1))
        self.assertIsNone(read_back(late, 0, 1, (1,)))
        self.assertFalse(is_image(late, 0, 1, (1,)))
        self.assertTrue(is_image(late, 0, 2, (0,)))
        self.assertTrue(is_blind(late, 0, 2, (1,)))
        self.assertEqual(seen_from(late, 0, 2, ()), (0,))

    def test_refused(self):
        kept = Kept(Web.subsets(3), Numbers.falling(3))
        for call in (read_back, is_image, is_blind, seen_from):
            for wrong in (-1, 4, True, None):
                self.refused(BadRank, {"rank": wrong}, call, kept, wrong, -1, 5)
            for wrong in (-1, True, None):
                self.refused(BadNumber, {"name": "steps"}, call, kept, 1, wrong, 5)
        for call in (read_back, is_image, is_blind):
            self.refused(Unseen, {"rank": 4}, call, kept, 1, 3, 5)
            for reading in (5, (1, 2), (1, 2, True)):
                self.refused(BadReading, {"rank": 2}, call, kept, 1, 1, reading)
            self.refused(BadReading, {"rank": 3}, call, kept, 1, 2, (1, 2, 3))
        for reading in (5, (1, 2), (1, 2, True)):
            self.refused(BadReading, {"rank": 1}, seen_from, kept, 1, 3, reading)
        self.refused(Unseen, {"rank": 4}, seen_from, kept, 1, 3, (1, 2, 3))


if __name__ == "__main__":
    unittest.main()
