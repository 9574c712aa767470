import random
import unittest
from math import factorial, prod

from upsanddowns.errors import BadPlace, BadRank, BadRule, NotPositive, Unseen
from upsanddowns.kept import Kept
from upsanddowns.numbers import Numbers
from upsanddowns.rules import OwnRule, Rule, ShiftRule, peaks, rule_count, tokens
from upsanddowns.webs import Web

from tests.helpers import Errors, all_kept, all_tuples, pairs_at, rule_kept, some_rules


def slow_peaks(web, n, x, other):
    return sorted(
        (y, up, down)
        for y in range(web[n + 1]) for up in range(web.ups[n][x][y]) for down in range(web.downs[n][other][y])
    )


def slow_tokens(kept, n, x, other):
    q, r = kept.pair_at(n)
    web = kept.web
    labels = sorted(
        (label, z, down, up) for label in range(q) for z in range(web[n - 1] if n else 0)
        for down in range(web.downs[n - 1][z][x]) for up in range(web.ups[n - 1][z][other])
    )
    return labels + [(colour,) for colour in range(r) if x == other]


class PeaksTest(Errors, unittest.TestCase):
    def test_lists(self):
        for kept in all_kept():
            for n in range(kept.top):
                for x, other in pairs_at(kept, n):
                    found = peaks(kept, n, x, other)
                    self.assertEqual(found, tuple(slow_peaks(kept.web, n, x, other)))
                    self.assertTrue(all_tuples(found))
                    self.assertEqual(len(found), kept.above(n)[x][other])
                    if kept.pair_at(n)[1] < 0:
                        self.refused(NotPositive, {"rank": n}, tokens, kept, n, x, other)
                        continue
                    told = tokens(kept, n, x, other)
                    self.assertEqual(told, tuple(slow_tokens(kept, n, x, other)))
                    self.assertTrue(all_tuples(told))
                    self.assertEqual(len(told), len(found))

    def test_known(self):
        kept = Kept(Web([[[2]], [[3]]], downs=[[[1]], [[2]]]), Numbers([(5, 2), (2, 2), (1, -1)]))
        self.assertEqual(peaks(kept, 0, 0, 0), ((0, 0, 0), (0, 1, 0)))
        self.assertEqual(tokens(kept, 0, 0, 0), ((0,), (1,)))
        self.assertEqual(
            peaks(kept, 1, 0, 0), ((0, 0, 0), (0, 0, 1), (0, 1, 0), (0, 1, 1), (0, 2, 0), (0, 2, 1))
        )
        self.assertEqual(
            tokens(kept, 1, 0, 0), ((0, 0, 0, 0), (0, 0, 0, 1), (1, 0, 0, 0), (1, 0, 0, 1), (0,), (1,))
        )

    def test_pairs_without_a_peak(self):
        web = Web.tree([2, 1])
        kept = Kept(web, Numbers([(0, 2), (0, 1)]))
        self.assertEqual((peaks(kept, 1, 0, 1), tokens(kept, 1, 0, 1)), ((), ()))
        self.assertEqual((Rule(kept).match(1, 0, 1), Rule(kept).token_numbers(1, 1, 0)), ((), ()))

    def test_great_strands_of_one_sort(self):
        many = 10 ** 12
        web = Web([[[1, many]]], downs=[[[3, 0]]])
        kept = Kept(web, Numbers([(many, 3)]))
        self.assertEqual(peaks(kept, 0, 0, 0), ((0, 0, 0), (0, 0, 1), (0, 0, 2)))
        self.assertEqual(tokens(kept, 0, 0, 0), ((0,), (1,), (2,)))

    def test_refused(self):
        kept = Kept(Web.subsets(2).empty_rank(), Numbers.falling(2))
        calls = [lambda *told: peaks(kept.cut(2), *told), lambda *told: tokens(kept.cut(2), *told)]
        for rule in some_rules(kept.cut(2), 1):
            calls += [
                rule.token_numbers, rule.match,
                lambda *told, rule=rule: rule.token_of(*told, 5), lambda *told, rule=rule: rule.peak_of(*told, 5),
            ]
        for call in calls:
            for rank in (-1, 3, True, None):
                self.refused(BadRank, {"rank": rank}, call, rank, -1, -1)
            for place in (-1, 2, True, None):
                self.refused(BadPlace, {"rank": 1, "place": place}, call, 1, place, -1)
                self.refused(BadPlace, {"rank": 1, "place": place}, call, 1, 0, place)
            self.refused(BadPlace, {"rank": 2, "place": 1}, call, 2, 0, 1)
            self.refused(Unseen, {"rank": 3}, call, 2, 0, 0)
        self.refused(NotPositive, {"rank": 2}, tokens, kept, 2, 0, 0)
        lower = Kept(Web.subsets(4), Numbers.falling(4))
        self.refused(NotPositive, {"rank": 3}, tokens, lower, 3, 0, 1)
        self.refused(BadPlace, {"rank": 3, "place": 4}, tokens, lower, 3, 0, 4)
        self.refused(Unseen, {"rank": 5}, tokens, lower, 4, 0, 0)


class RuleTest(Errors, unittest.TestCase):
    def check(self, rule):
        kept = rule.kept
        for n in range(kept.top):
            for x, other in pairs_at(kept, n):
                row = rule.token_numbers(n, x, other)
                self.assertTrue(all_tuples(row))
                self.assertEqual(sorted(row), list(range(kept.above(n)[x][other])))
                found, told = peaks(kept, n, x, other), tokens(kept, n, x, other)
                pairs = rule.match(n, x, other)
                self.assertTrue(all_tuples(pairs))
                self.assertEqual(pairs, tuple((peak, told[at]) for peak, at in zip(found, row)))
                for peak, token in pairs[:8]:
                    self.assertEqual(rule.token_of(n, x, other, peak), token)
                    self.assertEqual(rule.token_of(n, x, other, list(peak)), token)
                    self.assertEqual(rule.peak_of(n, x, other, token), peak)
                    self.assertEqual(rule.peak_of(n, x, other, list(token)), peak)

    def test_matches(self):
        for at, kept in enumerate(rule_kept()):
            for rule in some_rules(kept, at):
                self.check(rule)

    def test_words(self):
        kept = Kept(Web.shapes(2), Numbers.steady(1, 1))
        plain, shift, own = some_rules(kept, 1)
        self.assertEqual((plain.WORD, shift.WORD, own.WORD), ("plain", "shift", "own"))
        self.assertEqual((Rule.WORD, ShiftRule.WORD, OwnRule.WORD), ("plain", "shift", "own"))
        self.assertTrue(all(isinstance(rule, Rule) for rule in (shift, own)))
        self.assertTrue(all(rule.kept == kept for rule in (plain, shift, own)))

    def test_plain(self):
        for kept in rule_kept():
            for n in range(kept.top):
                for x, other in pairs_at(kept, n):
                    many = kept.above(n)[x][other]
                    self.assertEqual(Rule(kept).token_numbers(n, x, other), tuple(range(many)))

    def test_made_or_not(self):
        for kept in all_kept():
            faults = [n for n in range(kept.top) if kept.pair_at(n)[1] < 0]
            if faults:
                self.refused(NotPositive, {"rank": faults[0]}, Rule, kept)
                self.refused(NotPositive, {"rank": faults[0]}, ShiftRule, kept, [[]] * kept.top)
                self.refused(NotPositive, {"rank": faults[0]}, OwnRule, kept, [])
            else:
                self.assertEqual(Rule(kept).kept, kept)
        # At the top r may be below 0, and above the top.
        self.assertEqual(Rule(Kept(Web.subsets(2), Numbers.falling(2))).match(1, 0, 1)[0][0], (0, 0, 0))
        self.assertEqual(Rule(Kept(Web([], sizes=[2]), Numbers.steady(1, -1))).kept.top, 0)

    def test_no_such_peak_or_token(self):
        kept = Kept(Web.shapes(3), Numbers.steady(1, 1))
        for rule in some_rules(kept, 2):
            for wrong in (5, None, "", "000", (), (0, 0), (0, 0, 1), (9, 0, 0), (0, 0, 0, 0, 0), [[], 0, 0], {}):
                self.refused(BadRule, {"rank": 2}, rule.token_of, 2, 0, 0, wrong)
            for wrong in (5, None, "", (), (1,), (0, 0), (0, 0, 0, 1), (1, 0, 0, 0), [[]], [-1], {}):
                self.refused(BadRule, {"rank": 2}, rule.peak_of, 2, 0, 0, wrong)
            # Two unlike places have no colour tokens.
            self.refused(BadRule, {"rank": 2}, rule.peak_of, 2, 0, 1, (0,))
            self.refused(BadRule, {"rank": 2}, rule.token_of, 2, 0, 1, (0, 0, 0))


class ShiftTest(Errors, unittest.TestCase):
    def kept(self):
        return Kept(Web.shapes(4), Numbers.steady(1, 1))

    def test_numbers(self):
        kept = Kept(Web([[[2]], [[3]]], downs=[[[2]], [[2]]]), Numbers([(1, 4), (1, 2)]))
        shifted = ShiftRule(kept, [[3], (8,)])
        self.assertEqual(shifted.token_numbers(0, 0, 0), (3, 0, 1, 2))
        self.assertEqual(shifted.token_numbers(1, 0, 0), (2, 3, 4, 5, 0, 1))
        self.assertEqual(ShiftRule(kept, [[], []]).token_numbers(0, 0, 0), (0, 1, 2, 3))

    def test_pairs_by_their_numbers(self):
        for at, kept in enumerate(rule_kept()):
            dice = random.Random(at)
            shifts = [[dice.randint(0, 12) for _ in range(length % 4)] for length in range(kept.top)]
            rule = ShiftRule(kept, shifts)
            self.assertEqual(rule.shifts, tuple(tuple(row) for row in shifts))
            for n in range(kept.top):
                for j, (x, other) in enumerate(pairs_at(kept, n)):
                    many = kept.above(n)[x][other]
                    s = shifts[n][j % len(shifts[n])] if shifts[n] else 0
                    self.assertEqual(rule.token_numbers(n, x, other), tuple((k + s) % many for k in range(many)))

    def test_changed_behind_the_call(self):
        kept = self.kept()
        shifts = [[1], [2, 3], [], [4]]
        rule = ShiftRule(kept, shifts)
        told = [rule.token_numbers(3, 0, 0), rule.shifts]
        shifts[3][0] = 0
        shifts.append([9])
        self.assertEqual([rule.token_numbers(3, 0, 0), rule.shifts], told)
        self.assertTrue(all_tuples(rule.shifts))

    def test_refused(self):
        kept = self.kept()
        for shifts in (None, 5, "", {}):
            self.refused(BadRule, {"rank": -1}, ShiftRule, kept, shifts)
        for shifts, rank in (
            ([], 0), ([[]], 1), ([[], [-1], None], 1), ([[], [1], [True], []], 2), ([[], 5, [], []], 1),
            ([[], [], [], ["1"]], 3), ([[], [], []], 3), ([[], [], [], [], []], 4), ([[], [], [], [], [-1], 5], 4),
            ([[], [], [], [-1], []], 3), ([None, []], 0),
        ):
            self.refused(BadRule, {"rank": rank}, ShiftRule, kept, shifts)
        self.refused(BadRule, {"rank": 0}, ShiftRule, Kept(Web([], sizes=[1]), Numbers([])), [[]])
        lower = Kept(Web.subsets(4), Numbers.falling(4))
        self.refused(BadRule, {"rank": 3}, ShiftRule, lower, [[], [], []])


class OwnTest(Errors, unittest.TestCase):
    def kept(self):
        return Kept(Web.shapes(3), Numbers.steady(1, 1))

    def test_numbers(self):
        kept = self.kept()
        matches = [[2, 1, 1, [1, 0]], (0, 0, 0, (0,)), [2, 0, 1, (0,)]]
        rule = OwnRule(kept, matches)
        self.assertEqual(rule.matches, ((2, 1, 1, (1, 0)), (0, 0, 0, (0,)), (2, 0, 1, (0,))))
        self.assertEqual(rule.token_numbers(2, 1, 1), (1, 0))
        self.assertEqual(rule.token_numbers(2, 0, 0), (0, 1))
        self.assertEqual(OwnRule(kept, ()).matches, ())
        matches[0][3][0] = 0
        matches.pop()
        self.assertEqual(rule.token_numbers(2, 1, 1), (1, 0))
        self.assertEqual(len(rule.matches), 3)
        self.assertTrue(all_tuples(rule.matches))

    def test_pairs_without_a_peak(self):
        kept = Kept(Web.tree([2, 1]), Numbers([(0, 2), (0, 1)]))
        self.assertEqual(OwnRule(kept, [(1, 0, 1, [])]).token_numbers(1, 0, 1), ())
        self.refused(BadRule, {"rank": 1}, OwnRule, kept, [(1, 0, 1, [0])])

    def test_refused(self):
        kept = self.kept()
        good = (2, 0, 0, [1, 0])
        for matches in (None, 5, "", {}, good):
            self.refused(BadRule, {"rank": -1}, OwnRule, kept, matches)
        for entry in (None, 5, "2000", (2, 0, 0), (2, 0, 0, [1, 0], 1), (3, 0, 0, []), (-1, 0, 0, [1, 0]),
                      (True, 0, 0, []), (None, 0, 0, []), ("2", 0, 0, [])):
            self.refused(BadRule, {"rank": -1}, OwnRule, kept, [good, entry, (1, 9, 9, 9)])
        for entry in ((2, -1, 0, [1, 0]), (2, 0, 2, [0]), (2, True, 0, []), (2, 0, None, []), (2, -1, 1, [1, 0]), (2, 1, -1, [1, 0]), good, (2, 0, 0, (0, 1)),
                      (2, 1, 1, 5), (2, 1, 1, [0]), (2, 1, 1, [0, 0]), (2, 1, 1, [0, 2]), (2, 1, 1, [0, 1, 2]),
                      (2, 1, 1, [False, True]), (2, 1, 1, ["0", 1]), (2, 1, 1, [-1, 0]), (2, [0], 0, [])):
            self.refused(BadRule, {"rank": 2}, OwnRule, kept, [good, entry, (9, 9, 9, 9)])
        self.refused(BadRule, {"rank": 1}, OwnRule, kept, [(1, 0, 1, [])])
        self.refused(BadRule, {"rank": -1}, OwnRule, Kept(Web([], sizes=[1]), Numbers([])), [(0, 0, 0, [])])
        lower = Kept(Web.subsets(4), Numbers.falling(4))
        self.refused(BadRule, {"rank": 3}, OwnRule, lower, [(3, 0, 4, [])])


class CountTest(Errors, unittest.TestCase):
    def test_counts(self):
        for kept in all_kept():
            for n in range(kept.top):
                if kept.pair_at(n)[1] < 0:
                    self.refused(NotPositive, {"rank": n}, rule_count, kept, n)
                else:
                    many = prod(factorial(entry) for row in kept.above(n) for entry in row)
                    self.assertEqual(rule_count(kept, n), many)

    def test_edges(self):
        self.assertEqual(rule_count(Kept(Web([[]], sizes=[0, 2]), Numbers([])), 0), 1)
        self.assertEqual(rule_count(Kept(Web([[[3]]]), Numbers([(0, 9)])), 0), factorial(9))
        # Another rank may have r below 0.
        self.assertEqual(rule_count(Kept(Web.subsets(4), Numbers.falling(4)), 1), factorial(3) ** 4)

    def test_great(self):
        ones = [[int(x == y) for y in range(40)] for x in range(40)]
        kept = Kept(Web([ones], downs=[[[1000 * one for one in row] for row in ones]]), Numbers([(1, 1000)]))
        self.assertEqual(rule_count(kept, 0), factorial(1000) ** 40)

    def test_refused(self):
        kept = Kept(Web.subsets(4), Numbers.falling(4))
        for rank in (-1, 5, True, None):
            self.refused(BadRank, {"rank": rank}, rule_count, kept, rank)
        self.refused(Unseen, {"rank": 5}, rule_count, kept, 4)


if __name__ == "__main__":
    unittest.main()
