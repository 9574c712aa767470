import unittest

from upsanddowns.corners import corner_many, corner_ranks, grid
from upsanddowns.errors import BadNumber, BadPlace, BadRank, BadWalk, NotFresh, Unseen
from upsanddowns.fillings import Filling, fillings_of
from upsanddowns.kept import Kept
from upsanddowns.normal import normal_row
from upsanddowns.numbers import Numbers
from upsanddowns.rules import Rule
from upsanddowns.treating import state_of, treat, treat_one
from upsanddowns.walks import count
from upsanddowns.webs import Web

from tests.helpers import Errors, all_tuples, places_at, places_of, slow_walks, small_kept, some_rules, turning
from tests.test_numbers import ROWS


def round_walks(kept, most=30):
    """Fresh places with steps and all walks up and down from there back, if these are few."""
    found = []
    for i, x in places_of(kept.web):
        for k in range(kept.top - i + 1):
            if kept.web.is_fresh(i, x) and kept.numbers.gains(i, k) <= most:
                walks = [
                    walk for walk in slow_walks(kept.web, (i, x), turning(k)) if not walk or walk[-1][2] == x
                ]
                found.append(((i, x), k, walks))
    return found


def slow_corner(rule, place, walk, k, s, t):
    """The place at the corner as point 70 words it."""
    state = state_of(rule, place, turning(k), walk)
    while True:
        letters = state[1]
        turns = [
            at for at in range(len(letters) - 1)
            if letters[at][1] == "u" and letters[at + 1][1] == "d" and letters[at][0] >= s and letters[at + 1][0] < k + t
        ]
        if not turns:
            break
        state = treat_one(rule, state, turns[-1])
    height, reached = place
    passed = [at for at, (number, _) in enumerate(state[1]) if number < s or k <= number < k + t]
    for at in passed:
        height += 1 if state[2][at][0] == "u" else -1
        reached = state[2][at][2]
    return (height, reached)


class GridTest(Errors, unittest.TestCase):
    def test_against_the_words(self):
        seen = 0
        for at, kept in enumerate(small_kept()):
            for rule in some_rules(kept, at):
                for place, k, walks in round_walks(kept, 12):
                    for walk in walks:
                        found = grid(rule, list(place), [list(step) for step in walk], k)
                        self.assertTrue(all_tuples(found))
                        self.assertEqual(found, tuple(
                            tuple(slow_corner(rule, place, walk, k, s, t) for t in range(k + 1)) for s in range(k + 1)
                        ))
                        seen += 1
        self.assertGreater(seen, 150)

    def test_ranks(self):
        for at, kept in enumerate(small_kept()):
            for rule in some_rules(kept, at + 20):
                for place, k, walks in round_walks(kept):
                    for walk in walks:
                        rows = grid(rule, place, walk, k)
                        filling = treat(rule, place, turning(k), walk).filling
                        self.assertEqual(corner_ranks(filling), tuple(tuple(one[0] for one in row) for row in rows))
                        for s in range(k + 1):
                            for t in range(k + 1):
                                crossing = [g for g, j, _ in filling.marks() if g < s and j >= k + t]
                                self.assertEqual(rows[s][t][0], place[0] + len(crossing))

    def test_borders(self):
        for kept in small_kept():
            rule = Rule(kept)
            for place, k, walks in round_walks(kept):
                for walk in walks:
                    rows = grid(rule, place, walk, k)
                    self.assertEqual(rows[0], (place,) * (k + 1))
                    self.assertEqual([row[k] for row in rows], [place] * (k + 1))
                    self.assertEqual([row[0][1] for row in rows[1:]], [step[2] for step in walk[:k]])
                    self.assertEqual([one[1] for one in rows[k][1:]], [step[2] for step in walk[k:]])

    def test_places_at_corners(self):
        seen = 0
        for at, kept in enumerate(small_kept()):
            for rule in some_rules(kept, at + 40):
                for place, k, walks in round_walks(kept):
                    rows = [grid(rule, place, walk, k) for walk in walks]
                    for s in range(k + 1):
                        for t in range(k + 1):
                            for high in range(kept.top - place[0] + 1):
                                many = corner_many(kept.numbers, place[0], k, s, t, high)
                                for other in places_at(kept.web, place[0] + high):
                                    ways = count(kept.web, place, "u" * high, other)
                                    back = count(kept.web, other, "d" * high, place)
                                    seen += many > 0
                                    self.assertEqual(sum(row[s][t] == other for row in rows), many * ways * back)
        self.assertGreater(seen, 500)

    def test_refused(self):
        kept = Kept(Web.shapes(3), Numbers.steady(1, 1))
        rule = Rule(kept)
        self.refused(BadPlace, {"rank": -1, "place": 5}, grid, rule, 5, 5, -1)
        self.refused(BadRank, {"rank": 4}, grid, rule, (4, 0), 5, -1)
        self.refused(BadPlace, {"rank": 2, "place": 2}, grid, rule, (2, 2), 5, -1)
        for wrong in (-1, True, None, "1"):
            self.refused(BadNumber, {"name": "steps"}, grid, rule, (2, 0), 5, wrong)
        self.refused(Unseen, {"rank": 4}, grid, rule, (2, 0), 5, 2)
        self.refused(Unseen, {"rank": 10 ** 15 + 2}, grid, rule, (2, 0), 5, 10 ** 15)
        self.refused(BadWalk, {"at": -1}, grid, rule, (2, 0), 5, 1)
        self.refused(BadWalk, {"at": 1}, grid, rule, (2, 0), [("u", 0, 0)], 1)
        self.refused(BadWalk, {"at": 2}, grid, rule, (2, 0), [("u", 0, 0), ("d", 0, 0), ("u", 0, 0)], 1)
        # The walk ends at another place; that is told ahead of the place that is not fresh.
        self.refused(BadWalk, {"at": 1}, grid, rule, (2, 0), [("u", 0, 1), ("d", 0, 1)], 1)
        self.refused(NotFresh, {"rank": 2, "place": 0}, grid, rule, (2, 0), [("u", 0, 1), ("d", 0, 0)], 1)
        self.refused(NotFresh, {"rank": 2, "place": 1}, grid, rule, [2, 1], [], 0)
        self.assertEqual(grid(rule, [0, 0], [], 0), (((0, 0),),))
        one_sided = Kept(Web([[[0]]], downs=[[[2]]]), Numbers([(1, 0)]))
        self.refused(NotFresh, {"rank": 1, "place": 0}, grid, Rule(one_sided), (1, 0), (), 0)


class RanksTest(Errors, unittest.TestCase):
    def test_rows(self):
        filling = Filling("uduud", 2, [(0, 1, "mark", 0), (2, 4, "swap", 0), (3, 4, "swap", 0)])
        found = corner_ranks(filling)
        self.assertEqual(found, tuple(tuple(filling.rank_at(s, t) for t in range(3)) for s in range(4)))
        self.assertEqual(found, ((2, 2, 1), (3, 2, 1), (4, 3, 2), (5, 4, 3)))
        self.assertTrue(all_tuples(found))
        self.assertEqual(corner_ranks(Filling("", 7, ())), ((7,),))
        self.assertEqual(corner_ranks(Filling("dd", 1, ())), ((1, 0, -1),))
        self.assertEqual(corner_ranks(Filling("uu", 1, ())), ((1,), (2,), (3,)))


class ManyTest(Errors, unittest.TestCase):
    def test_formula(self):
        for numbers in ROWS:
            for i in range(3):
                for k in range(4):
                    for s in range(k + 1):
                        for t in range(k + 1):
                            for high in range(k + 2):
                                c = high - s + t
                                want = 0
                                if 0 <= c <= k - s and c <= t and high <= s and high <= k - t:
                                    row = normal_row(numbers, "u" * (k - s) + "d" * t, i + s)
                                    want = row[c]
                                    for steps in range(high + 1, s + 1):
                                        want *= numbers.gain(i, steps)
                                    for steps in range(high + 1, k - t + 1):
                                        want *= numbers.gain(i, steps)
                                told = corner_many(numbers, i, k, s, t, high)
                                self.assertIs(type(told), int)
                                self.assertEqual(told, want)
                            total = sum(
                                corner_many(numbers, i, k, s, t, high) * numbers.gains(i, high)
                                for high in range(k + 1)
                            )
                            self.assertEqual(total, numbers.gains(i, k))

    def test_fillings_by_corner_ranks(self):
        for numbers in (Numbers.steady(1, 1), Numbers([(1, 2), (2, 1), (0, 3)])):
            for k in range(4):
                found = list(fillings_of(numbers, turning(k), 0, limit=10 ** 5))
                for s in range(k + 1):
                    for t in range(k + 1):
                        for high in range(k + 1):
                            many = corner_many(numbers, 0, k, s, t, high) * numbers.gains(0, high)
                            self.assertEqual(sum(one.rank_at(s, t) == high for one in found), many)

    def test_refused(self):
        one = Numbers.steady(1, 1)
        for wrong in (-1, True, None, "1"):
            self.refused(BadRank, {"rank": wrong}, corner_many, one, wrong, -1, -1, -1, -1)
            self.refused(BadNumber, {"name": "steps"}, corner_many, one, 0, wrong, -1, -1, -1)
            self.refused(BadNumber, {"name": "ups"}, corner_many, one, 0, 2, wrong, -1, -1)
            self.refused(BadNumber, {"name": "downs"}, corner_many, one, 0, 2, 2, wrong, -1)
            self.refused(BadNumber, {"name": "high"}, corner_many, one, 0, 2, 2, 2, wrong)
        self.refused(BadNumber, {"name": "ups"}, corner_many, one, 0, 2, 3, 3, -1)
        self.refused(BadNumber, {"name": "downs"}, corner_many, one, 0, 2, 2, 3, -1)
        self.assertEqual(corner_many(one, 0, 2, 2, 2, 9), 0)


if __name__ == "__main__":
    unittest.main()
