import unittest

from upsanddowns.alike import alike_words
from upsanddowns.corners import corner_ranks, grid
from upsanddowns.errors import (
    BadNumber, BadPlace, BadRank, BadWalk, BadWord, NoneSuch, NotFresh, TooMany, Unseen,
)
from upsanddowns.fillings import fillings_of
from upsanddowns.kept import Kept
from upsanddowns.leading import lead, lead_word
from upsanddowns.makers import chain
from upsanddowns.normal import normal_row
from upsanddowns.numbers import Numbers
from upsanddowns.rules import Rule
from upsanddowns.treating import treat
from upsanddowns.webs import Web
from upsanddowns.words import climb

from tests.helpers import (
    Errors, all_tuples, falling_kept, places_of, reflected, slow_walks, small_kept, some_rules, stays, turning,
    words_to,
)


def pairs_of_webs():
    """Two kept webs with fresh places of one rank, and steps across ranks with equal pairs."""
    one = Numbers.steady(1, 1)
    shapes, words = Kept(Web.shapes(4), one), Kept(Web.words(4), one)
    unlike = reflected(Kept(Web([[[1]], [[1, 1]]], downs=[[[1]], [[2, 0]]]), one), 1)
    tree = Kept(Web.tree([2, 1, 2]), Numbers([(0, 2), (0, 1), (0, 2)]))
    # One place a rank, with the pairs of the tree.
    stem = Kept(Web([[[2]], [[1]], [[2]]], downs=[[[1]], [[1]], [[1]]]), tree.numbers)
    low, other = falling_kept()[3][0].cut(2), falling_kept()[-1][0].cut(2)
    steep = Numbers([(1, 1), (1, 2), (2, 1), (1, 1)])
    fresh = reflected(Kept(Web([[[1, 0]]]), steep), 2)
    return [
        (shapes, (0, 0), words, (0, 0), 4),
        (shapes, (0, 0), unlike, (0, 0), 3),
        (tree, (0, 0), stem, (0, 0), 3),
        (low, (0, 0), other, (0, 0), 2),
        (fresh, (1, 1), Kept(chain(steep, 1, 3), steep), (1, 0), 2),
    ]


def closed(kept, place, k):
    return [walk for walk in slow_walks(kept.web, place, turning(k)) if not walk or walk[-1][2] == place[1]]


class LeadTest(Errors, unittest.TestCase):
    def test_there_and_back(self):
        seen = 0
        for kept, place, other, other_place, most in pairs_of_webs():
            for k in range(most + 1):
                walks = closed(kept, place, k)
                others = closed(other, other_place, k)
                self.assertEqual(len(walks), len(others))
                if len(walks) > 60:
                    continue
                for at in range(3):
                    rule, far = some_rules(kept, at)[at], some_rules(other, at + 9)[2 - at]
                    told = [lead(rule, far, place, list(other_place), walk, k) for walk in walks]
                    self.assertTrue(all_tuples(told[0]))
                    self.assertEqual(sorted(told), sorted(others))
                    for walk, found in zip(walks, told):
                        one = treat(rule, place, turning(k), walk).filling
                        two = treat(far, other_place, turning(k), found).filling
                        self.assertEqual(one, two)
                        self.assertEqual(lead(far, rule, other_place, place, found, k), walk)
                        rows = [[[spot[0] for spot in row] for row in grid(*its, k)] for its in (
                            (rule, place, walk), (far, other_place, found))]
                        self.assertEqual(rows[0], rows[1])
                        self.assertEqual(corner_ranks(one), corner_ranks(two))
                        seen += 1
        self.assertGreater(seen, 150)

    def test_one_web(self):
        kept = Kept(Web.shapes(3), Numbers.steady(1, 1))
        plain, shifted, own = some_rules(kept, 5)
        for walk in closed(kept, (0, 0), 3):
            self.assertEqual(lead(plain, plain, (0, 0), (0, 0), walk, 3), walk)
            self.assertEqual(lead(shifted, plain, (0, 0), (0, 0), lead(plain, shifted, (0, 0), (0, 0), walk, 3), 3), walk)
        self.assertEqual(lead(own, plain, [0, 0], [0, 0], [], 0), ())

    def test_pairs_that_are_not_asked(self):
        # The pairs beneath the places and from start + steps on may differ.
        one = Kept(Web.shapes(2) >> 1, Numbers([(5, 5), (1, 1), (1, 1), (1, 9)]))
        two = Kept(Web.words(2) >> 1, Numbers([(6, 6), (1, 1), (1, 1), (7, 7)]))
        walk = closed(one, (1, 0), 2)[0]
        self.assertEqual(len(lead(Rule(one), Rule(two), (1, 0), (1, 0), walk, 2)), 4)

    def test_refused(self):
        kept = Kept(Web.shapes(3), Numbers.steady(1, 1))
        rule = Rule(kept)
        near = Rule(Kept(Web.words(2), Numbers.steady(1, 1)))
        walk = closed(kept, (0, 0), 3)[0]
        self.refused(BadPlace, {"rank": -1, "place": 5}, lead, rule, near, 5, 5, 5, -1)
        self.refused(BadRank, {"rank": 4}, lead, rule, near, (4, 0), 5, 5, -1)
        self.refused(BadNumber, {"name": "steps"}, lead, rule, near, (0, 0), 5, 5, -1)
        self.refused(Unseen, {"rank": 4}, lead, rule, near, (0, 0), 5, 5, 4)
        self.refused(BadWalk, {"at": -1}, lead, rule, near, (0, 0), 5, 5, 3)
        self.refused(BadWalk, {"at": 1}, lead, rule, near, (2, 0), 5, [("u", 0, 1), ("d", 0, 1)], 1)
        self.refused(NotFresh, {"rank": 2, "place": 0}, lead, rule, near, (2, 0), 5, [("u", 0, 1), ("d", 0, 0)], 1)
        self.refused(BadPlace, {"rank": -1, "place": 5}, lead, rule, near, (0, 0), 5, walk, 3)
        self.refused(BadRank, {"rank": 3}, lead, rule, near, (0, 0), (3, 0), walk, 3)
        self.refused(BadPlace, {"rank": 2, "place": 2}, lead, rule, near, (0, 0), (2, 2), walk, 3)
        self.refused(BadRank, {"rank": 2}, lead, rule, near, (0, 0), (2, 1), walk, 3)
        self.refused(Unseen, {"rank": 3}, lead, rule, near, (0, 0), (0, 0), walk, 3)
        other = Rule(Kept(Web.tree([1, 2, 1]), Numbers([(1, 1), (0, 2), (0, 1)])))
        self.refused(NoneSuch, {"rank": 1}, lead, rule, other, (0, 0), (0, 0), walk, 3)
        short = closed(kept, (0, 0), 1)[0]
        self.assertEqual(lead(rule, other, (0, 0), (0, 0), short, 1), short)

    def test_places_that_are_not_fresh(self):
        # Rank 1 has a fresh place in the first web, and none in the second one, whose pairs differ, too.
        one = reflected(Kept(Web([[[1, 0]]]), Numbers([(1, 1), (1, 1)])), 1)
        two = reflected(Kept(Web([[[1]]]), Numbers([(2, 1), (1, 2)])), 1)
        walk = closed(one, (1, 1), 1)[0]
        self.assertEqual(lead(Rule(one), Rule(one), (1, 1), (1, 1), walk, 1), walk)
        self.refused(NotFresh, {"rank": 1, "place": 0}, lead, Rule(one), Rule(two), (1, 1), (1, 0), walk, 1)
        self.refused(Unseen, {"rank": 2}, lead, Rule(one), Rule(two.cut(1)), (1, 1), (1, 0), walk, 1)


def alike_pairs():
    """Kept webs with places and two alike words that stay in the ranks."""
    found = []
    for kept in small_kept():
        for place in places_of(kept.web):
            for word in words_to(5) + ["uududd", "uuuddd", "duuudd"]:
                if not stays(kept.web, place[0], word):
                    continue
                for other in alike_words(kept.numbers, word, place[0]):
                    if other != word and climb(other, place[0]) <= kept.top:
                        if 0 < len(slow_walks(kept.web, place, word)) <= 40:
                            found.append((kept, place, word, other))
    return found


class LeadWordTest(Errors, unittest.TestCase):
    def test_there_and_back(self):
        pairs = alike_pairs()
        self.assertGreater(len(pairs), 30)
        for at, (kept, place, word, other) in enumerate(pairs):
            rule = some_rules(kept, at)[at % 3]
            numbers = kept.numbers
            walks = slow_walks(kept.web, place, word)
            told = [lead_word(rule, place, word, walk, other) for walk in walks]
            self.assertEqual(sorted(told), sorted(slow_walks(kept.web, place, other)))
            for walk, found in zip(walks, told):
                one, two = treat(rule, place, word, walk), treat(rule, place, other, found)
                self.assertEqual((one.walk, one.last_place), (two.walk, two.last_place))
                many = one.filling.many_marks
                self.assertEqual(two.filling.many_marks, many)
                spots = [
                    [f.entries for f in fillings_of(numbers, its, place[0]) if f.many_marks == many].index(done.filling.entries)
                    for its, done in ((word, one), (other, two))
                ]
                self.assertEqual(spots[0], spots[1])
                self.assertEqual(lead_word(rule, place, other, found, word), walk)

    def test_as_many_fillings(self):
        for kept, place, word, other in alike_pairs():
            for c in range(len(normal_row(kept.numbers, word, place[0]))):
                many = [
                    sum(one.many_marks == c for one in fillings_of(kept.numbers, its, place[0])) for its in (word, other)
                ]
                self.assertEqual(many[0], many[1])

    def test_the_word_itself(self):
        kept = Kept(Web.shapes(3), Numbers.steady(1, 1))
        for rule in some_rules(kept, 3):
            for walk in slow_walks(kept.web, (1, 0), "uudd"):
                self.assertEqual(lead_word(rule, [1, 0], "uudd", [list(step) for step in walk], "uudd"), walk)

    def test_refused(self):
        kept = Kept(Web.shapes(3), Numbers.steady(1, 1))
        rule = Rule(kept)
        walk = slow_walks(kept.web, (1, 0), "uudd")[0]
        self.refused(BadPlace, {"rank": -1, "place": 5}, lead_word, rule, 5, 5, 5, 5)
        self.refused(BadWord, {"at": 0}, lead_word, rule, (1, 0), "x", 5, 5)
        self.refused(Unseen, {"rank": 4}, lead_word, rule, (1, 0), "uuu", 5, 5)
        self.refused(BadWalk, {"at": 0}, lead_word, rule, (1, 0), "uudd", [], 5)
        self.refused(BadWord, {"at": -1}, lead_word, rule, (1, 0), "uudd", walk, 5)
        self.refused(BadWord, {"at": 2}, lead_word, rule, (1, 0), "uudd", walk, "uux")
        self.refused(Unseen, {"rank": 4}, lead_word, rule, (1, 0), "uudd", walk, "uuudddd")
        self.refused(NoneSuch, {"rank": 1}, lead_word, rule, (1, 0), "uudd", walk, "udud")
        self.refused(NoneSuch, {"rank": 1}, lead_word, rule, (1, 0), "uudd", walk, "ud")
        self.refused(NoneSuch, {"rank": 1}, lead_word, rule, (1, 0), "uudd", walk, "dduu")

    def test_many_fillings(self):
        for many in (1999, 2000):
            kept = Kept(Web([[[1]], [[1]]], downs=[[[1]], [[many + 1]]]), Numbers([(1, 1), (1, many)]))
            walk = (("u", 0, 0), ("d", many, 0))
            if many == 1999:
                self.assertEqual(lead_word(Rule(kept), (1, 0), "ud", walk, "ud"), walk)
            else:
                self.refused(TooMany, {"limit": 2000}, lead_word, Rule(kept), (1, 0), "ud", walk, "ud")


if __name__ == "__main__":
    unittest.main()
