import random
import unittest

from upsanddowns.errors import BadFilling, BadNumber, BadPlace, BadRank, BadWalk, BadWord, Unseen
from upsanddowns.fillings import Filling, check_filling, fillings_of
from upsanddowns.kept import Kept
from upsanddowns.normal import normal_row
from upsanddowns.numbers import Numbers
from upsanddowns.rules import Rule, ShiftRule
from upsanddowns.totals import total
from upsanddowns.treating import Treated, state_of, treat, treat_one, untreat
from upsanddowns.walks import count
from upsanddowns.webs import Web

from tests.helpers import (
    Errors, all_tuples, closed_words, heights_of, places_at, places_of, slow_walks, small_kept, some_rules, stays,
    turning, words_to,
)


def few_words(kept):
    """Words that stay in the ranks, each with a place and all walks from there, if these are few."""
    found = []
    for place in places_of(kept.web):
        for word in words_to(4) + ["uuddu", "uduud", "uuudd", "duudd", "uuuddd", "uududd"]:
            if stays(kept.web, place[0], word):
                walks = slow_walks(kept.web, place, word)
                if len(walks) <= 60:
                    found.append((place, word, walks))
    return found


def all_turns(letters):
    return [at for at in range(len(letters) - 1) if letters[at][1] == "u" and letters[at + 1][1] == "d"]


class StateTest(Errors, unittest.TestCase):
    def test_first_state(self):
        kept = Kept(Web.shapes(3), Numbers.steady(1, 1))
        walk = [["u", 0, 1], ["d", 0, 0]]
        state = state_of(Rule(kept), [1, 0], "ud", walk)
        self.assertEqual(state, ((1, 0), ((0, "u"), (1, "d")), (("u", 0, 1), ("d", 0, 0)), ()))
        self.assertTrue(all_tuples(state))
        self.assertEqual(state_of(Rule(kept), (1, 0), "", ()), ((1, 0), (), (), ()))
        walk[0][2] = 0
        self.assertEqual(state[2], (("u", 0, 1), ("d", 0, 0)))

    def test_one_swap_and_one_mark(self):
        kept = Kept(Web.shapes(3), Numbers.steady(1, 1))
        rule = Rule(kept)
        state = state_of(rule, (0, 0), "uud", (("u", 0, 0), ("u", 0, 0), ("d", 0, 0)))
        found = treat_one(rule, state, 1)
        self.assertEqual(found, (
            (0, 0), ((0, "u"), (2, "d"), (1, "u")), (("u", 0, 0), ("d", 0, 0), ("u", 0, 0)), ((1, 2, "swap", 0),),
        ))
        self.assertEqual(treat_one(rule, found, 0), (
            (0, 0), ((1, "u"),), (("u", 0, 0),), ((0, 2, "mark", 0), (1, 2, "swap", 0)),
        ))
        state = state_of(rule, (0, 0), "uud", (("u", 0, 0), ("u", 0, 1), ("d", 0, 0)))
        found = treat_one(rule, state, 1)
        self.assertEqual(found, ((0, 0), ((0, "u"),), (("u", 0, 0),), ((1, 2, "mark", 0),)))
        self.assertTrue(all_tuples(found))

    def test_strands_and_places_of_a_swap(self):
        # The one token of the peak is told by the rule, strands and all.
        kept = small_kept()[5]
        for rule in some_rules(kept, 3):
            for walk in slow_walks(kept.web, (1, 0), "ud"):
                state = treat_one(rule, state_of(rule, (1, 0), "ud", walk), 0)
                token = rule.token_of(1, 0, 0, (walk[0][2], walk[0][1], walk[1][1]))
                if len(token) == 1:
                    self.assertEqual(state, ((1, 0), (), (), ((0, 1, "mark", token[0]),)))
                else:
                    label, middle, down, up = token
                    self.assertEqual(state, (
                        (1, 0), ((1, "d"), (0, "u")), (("d", down, middle), ("u", up, 0)), ((0, 1, "swap", label),),
                    ))

    def test_any_order(self):
        for at, kept in enumerate(small_kept()):
            dice = random.Random(at)
            for rule in some_rules(kept, at):
                for place, word, walks in few_words(kept):
                    for walk in dice.sample(walks, min(3, len(walks))):
                        done = treat(rule, place, word, walk)
                        self.assertTrue(all_tuples((done.walk, done.place, done.last_place)))
                        other = treat(rule, place, word, walk, backwards=True)
                        self.assertEqual((done.filling, done.walk), (other.filling, other.walk))
                        state = state_of(rule, place, word, walk)
                        while all_turns(state[1]):
                            state = treat_one(rule, state, dice.choice(all_turns(state[1])))
                        letters = "".join(letter for _, letter in state[1])
                        self.assertEqual(letters, "d" * letters.count("d") + "u" * letters.count("u"))
                        self.assertEqual(state[0], place)
                        self.assertEqual(state[2], done.walk)
                        self.assertEqual(state[3], done.filling.entries)
                        self.assertEqual(done.filling.left(), (letters.count("d"), letters.count("u")))

    def test_indexes_refused(self):
        rule = Rule(Kept(Web.shapes(3), Numbers.steady(1, 1)))
        state = state_of(rule, (0, 0), "uudud", [("u", 0, 0), ("u", 0, 0), ("d", 0, 0), ("u", 0, 1), ("d", 0, 0)])
        for at in (-1, 0, 2, 4, 5, 9, True, None, "1"):
            self.refused(BadNumber, {"name": "at"}, treat_one, rule, state, at)
        treat_one(rule, state, 1)
        treat_one(rule, state, 3)
        back = state_of(rule, (1, 0), "du", [("d", 0, 0), ("u", 0, 0)])
        self.refused(BadNumber, {"name": "at"}, treat_one, rule, back, -1)
        self.refused(BadNumber, {"name": "at"}, treat_one, rule, state_of(rule, (1, 0), "d", [("d", 0, 0)]), 0)
        self.refused(BadNumber, {"name": "at"}, treat_one, rule, state_of(rule, (1, 0), "u", [("u", 0, 0)]), 0)
        self.refused(BadNumber, {"name": "at"}, treat_one, rule, state_of(rule, (1, 0), "", []), 0)


class TreatTest(Errors, unittest.TestCase):
    def test_each_walk_is_a_filling_and_a_walk_left(self):
        seen = 0
        for at, kept in enumerate(small_kept()):
            for rule in some_rules(kept, at):
                for place, word, walks in few_words(kept):
                    pairs = set()
                    for walk in walks:
                        done = treat(rule, place, word, walk)
                        self.assertIsInstance(done, Treated)
                        self.assertIsInstance(done.filling, Filling)
                        self.assertEqual((done.filling.word, done.filling.rank), (word, place[0]))
                        self.assertIs(check_filling(kept.numbers, done.filling), done.filling)
                        self.assertEqual(done.place, place)
                        last = heights_of(place[0], word)[-1]
                        end = walk[-1][2] if walk else place[1]
                        self.assertEqual(done.last_place, (last, end))
                        self.assertEqual(done.walk[-1][2] if done.walk else place[1], end)
                        pairs.add((done.filling.entries, done.walk))
                        self.assertEqual(untreat(rule, place, done.filling, done.walk), walk)
                        seen += 1
                    self.assertEqual(len(pairs), len(walks))
                    want = set()
                    for filling in fillings_of(kept.numbers, word, place[0], limit=10 ** 6):
                        t, s = filling.left()
                        for left in slow_walks(kept.web, place, "d" * t + "u" * s):
                            want.add((filling.entries, left))
                    self.assertEqual(pairs, want)
        self.assertGreater(seen, 5000)

    def test_marks_are_counted(self):
        for at, kept in enumerate(small_kept()[:7]):
            rule = some_rules(kept, at + 50)[1 + at % 2]
            for place, word, walks in few_words(kept):
                row = normal_row(kept.numbers, word, place[0])
                marks = {}
                for walk in walks:
                    done = treat(rule, place, word, walk)
                    key = (done.filling.many_marks, done.last_place)
                    marks[key] = marks.get(key, 0) + 1
                last = heights_of(place[0], word)[-1]
                for c, many in enumerate(row):
                    left = "d" * (word.count("d") - c) + "u" * (word.count("u") - c)
                    for other in places_at(kept.web, last):
                        self.assertEqual(marks.get((c, other), 0), many * count(kept.web, place, left, other))

    def test_closed_walks_are_counted(self):
        for at, kept in enumerate(small_kept()[:4]):
            rule = some_rules(kept, at + 70)[2]
            for n in range(kept.top + 1):
                for word in closed_words(4):
                    if not stays(kept.web, n, word):
                        continue
                    marks = [0] * (word.count("d") + 1)
                    for place in places_at(kept.web, n):
                        for walk in slow_walks(kept.web, place, word):
                            if not walk or walk[-1][2] == place[1]:
                                marks[treat(rule, place, word, walk).filling.many_marks] += 1
                    row = normal_row(kept.numbers, word, n)
                    b = word.count("d")
                    want = [many * total(kept, n, "d" * (b - c) + "u" * (b - c)) for c, many in enumerate(row)]
                    self.assertEqual(marks, want)

    def test_fresh_places(self):
        for at, kept in enumerate(small_kept()):
            for rule in some_rules(kept, at):
                for i, x in places_of(kept.web):
                    for k in range(min(kept.top - i, 3) + 1):
                        if not kept.web.is_fresh(i, x) or kept.numbers.gains(i, k) > 50:
                            continue
                        walks = [
                            walk for walk in slow_walks(kept.web, (i, x), turning(k))
                            if not walk or walk[-1][2] == x
                        ]
                        self.assertEqual(len(walks), kept.numbers.gains(i, k))
                        told = [treat(rule, (i, x), turning(k), walk) for walk in walks]
                        self.assertTrue(all(one.walk == () and one.filling.many_marks == k for one in told))
                        want = [
                            one.entries for one in fillings_of(kept.numbers, turning(k), i, limit=10 ** 5)
                            if one.many_marks == k
                        ]
                        self.assertEqual(sorted(one.filling.entries for one in told), want)

    def test_edges(self):
        kept = Kept(Web.shapes(2) >> 1, Numbers.steady(1, 1))
        done = treat(Rule(kept), [1, 0], "", [])
        self.assertEqual((done.filling.entries, done.walk, done.place, done.last_place), ((), (), (1, 0), (1, 0)))
        done = treat(Rule(kept), (1, 0), "uu", [["u", 0, 0], ["u", 0, 1]])
        self.assertEqual((done.filling.entries, done.walk), ((), (("u", 0, 0), ("u", 0, 1))))
        self.assertEqual(done.last_place, (3, 1))
        done = treat(Rule(kept), (3, 1), "dd", [("d", 0, 0), ("d", 0, 0)])
        self.assertEqual((done.walk, done.last_place), ((("d", 0, 0), ("d", 0, 0)), (1, 0)))

    def test_the_first_or_the_last_one(self):
        # A rule that is asked tells in which order it is asked.
        class Asked(Rule):
            def __init__(self, kept):
                super().__init__(kept)
                self.asked = []

            def token_of(self, rank, x, other, peak):
                self.asked.append(rank)
                return super().token_of(rank, x, other, peak)

        kept = Kept(Web.shapes(3), Numbers.steady(1, 1))
        walk = [("u", 0, 0), ("d", 0, 0), ("u", 0, 0), ("u", 0, 0), ("d", 0, 0)]
        forth, back = Asked(kept), Asked(kept)
        treat(forth, (0, 0), "uduud", walk)
        treat(back, (0, 0), "uduud", walk, backwards=True)
        self.assertEqual((forth.asked[0], back.asked[0]), (0, 1))

    def test_refused(self):
        kept = Kept(Web.shapes(2), Numbers.steady(1, 1))
        rule = Rule(kept)
        for call in (treat, state_of):
            self.refused(BadPlace, {"rank": -1, "place": 5}, call, rule, 5, 5, 5)
            self.refused(BadRank, {"rank": 3}, call, rule, (3, 0), 5, 5)
            self.refused(BadPlace, {"rank": 2, "place": 2}, call, rule, (2, 2), 5, 5)
            self.refused(BadWord, {"at": -1}, call, rule, (2, 0), 5, 5)
            self.refused(BadWord, {"at": 1}, call, rule, (2, 0), "ux", 5)
            self.refused(Unseen, {"rank": 3}, call, rule, (2, 0), "ud", 5)
            self.refused(Unseen, {"rank": 3}, call, rule, (0, 0), "duuuu", 5)
            self.refused(BadWalk, {"at": -1}, call, rule, (1, 0), "ud", 5)
            self.refused(BadWalk, {"at": 0}, call, rule, (0, 0), "d", [("d", 0, 0)])
            self.refused(BadWalk, {"at": 1}, call, rule, (1, 0), "ud", [("u", 0, 1), ("d", 1, 0)])
            self.refused(BadWalk, {"at": 1}, call, rule, (1, 0), "ud", [("u", 0, 1)])
            self.refused(BadWalk, {"at": 2}, call, rule, (1, 0), "ud", [("u", 0, 1), ("d", 0, 0), ("d", 0, 0)])


class UntreatTest(Errors, unittest.TestCase):
    def test_lists(self):
        kept = Kept(Web.shapes(3), Numbers.steady(1, 1))
        filling = Filling("uud", 1, [[0, 2, "swap", 0], [1, 2, "swap", 0]])
        found = untreat(Rule(kept), [1, 0], filling, [["d", 0, 0], ["u", 0, 0], ["u", 0, 1]])
        self.assertTrue(all_tuples(found))
        done = treat(Rule(kept), (1, 0), "uud", found)
        self.assertEqual((done.filling, done.walk), (filling, (("d", 0, 0), ("u", 0, 0), ("u", 0, 1))))

    def test_other_rules(self):
        kept = Kept(Web.shapes(3), Numbers.steady(1, 1))
        shifted = ShiftRule(kept, [[1], [1], [1]])
        filling = Filling("ud", 2, [(0, 1, "mark", 0)])
        self.assertEqual(untreat(Rule(kept), (2, 0), filling, ()), (("u", 0, 1), ("d", 0, 0)))
        self.assertEqual(untreat(shifted, (2, 0), filling, ()), (("u", 0, 0), ("d", 0, 0)))

    def test_refused(self):
        kept = Kept(Web.shapes(3), Numbers.steady(1, 1))
        rule = Rule(kept)
        good = Filling("ud", 1, [(0, 1, "swap", 0)])
        self.refused(BadPlace, {"rank": -1, "place": 5}, untreat, rule, 5, 5, 5)
        self.refused(BadRank, {"rank": 4}, untreat, rule, (4, 0), 5, 5)
        self.refused(BadPlace, {"rank": 1, "place": 1}, untreat, rule, (1, 1), 5, 5)
        self.refused(BadFilling, {"at": -1}, untreat, rule, (1, 0), 5, 5)
        self.refused(BadFilling, {"at": 0}, untreat, rule, (1, 0), Filling("ud", 1, [(0, 1, "swap", 1)]), 5)
        self.refused(BadFilling, {"at": 0}, untreat, rule, (2, 0), Filling("ud", 1, []), 5)
        self.refused(BadFilling, {"at": -1}, untreat, rule, (2, 0), good, 5)
        self.refused(BadFilling, {"at": -1}, untreat, rule, (2, 0), Filling("uuud", 1, [
            (0, 3, "swap", 0), (1, 3, "swap", 0), (2, 3, "swap", 0)]), 5)
        high = Filling("uuud", 1, [(0, 3, "swap", 0), (1, 3, "swap", 0), (2, 3, "swap", 0)])
        self.refused(Unseen, {"rank": 4}, untreat, rule, (1, 0), high, 5)
        self.refused(BadWalk, {"at": -1}, untreat, rule, (1, 0), good, 5)
        self.refused(BadWalk, {"at": 0}, untreat, rule, (1, 0), good, [("u", 0, 0), ("d", 0, 0)])
        self.refused(BadWalk, {"at": 1}, untreat, rule, (1, 0), good, [("d", 0, 0)])
        self.refused(BadWalk, {"at": 2}, untreat, rule, (1, 0), good, [("d", 0, 0), ("u", 0, 0), ("u", 0, 0)])


if __name__ == "__main__":
    unittest.main()
