import unittest

from upsanddowns.errors import (
    BadFilling, BadNumber, BadPlace, BadRank, BadRule, NotEven, NotPositive, TooMany, Unseen,
)
from upsanddowns.fillings import Filling, fillings_of
from upsanddowns.joins import thick
from upsanddowns.kept import Kept
from upsanddowns.normal import normal_row
from upsanddowns.numbers import Numbers
from upsanddowns.own import thick_numbers
from upsanddowns.rules import OwnRule, Rule, ShiftRule, peaks, tokens
from upsanddowns.strands import has_strands, single_ways, spread_word
from upsanddowns.treating import treat
from upsanddowns.turning import (
    EvenRule, even_rule, is_even_handed, is_own_turn, may_turn, own_turns, turn_peak, turn_token, turned_filling,
)
from upsanddowns.walks import walk_back
from upsanddowns.webs import Web
from upsanddowns.words import climb, rise, turned

from tests.helpers import (
    Errors, all_kept, all_tuples, pairs_at, places_of, slow_walks, small_kept, stays, turning, words_to,
)


def even_handed():
    """Kept webs with strand numbers and turnings."""
    one = Numbers.steady(1, 1)
    shapes = Kept(Web.shapes(3), one)
    double = [(2, 2)] * 3
    stairs = Kept(Web([[[1]], [[2, 1]]]), Numbers([(1, 1), (3, 2)]))
    return [
        (Kept(Web.shapes(4), one), one),
        (Kept(Web.words(3) >> 1, one), one),
        (Kept(Web.subsets(3).cut(2), Numbers.falling(3)), Numbers.falling(3)),
        (Kept(Web.tree([2, 1, 2]), Numbers([(0, 2), (0, 1), (0, 2)])), Numbers([(0, 2), (0, 1), (0, 2)])),
        (Kept(thick(shapes.web, double), thick_numbers(shapes, double)), Numbers.steady(1, 2)),
        (stairs, Numbers([(1, 1), (1, 2)])),
        (stairs, Numbers([(1, 1), (3, 0)])),
        (Kept(Web([[[2]], [[1, 2]]], sizes=[1, 1, 2]), Numbers([(1, 4), (1, 1)])), Numbers([(1, 2), (1, 1)])),
        (Kept(Web([], sizes=[2]), Numbers.steady(1, -1)), Numbers.steady(5, 5)),
    ]


def pair_turns(pair, strand):
    (q, r), (g, f) = pair, strand
    return g in range(q % 2, q + 1, 2) and f in range(r % 2, r + 1, 2)


def has_turnings(numbers, strands, n):
    return pair_turns(numbers[n], strands[n])


def slow_turned(number, many, still):
    """The number turned: the last ones stay, the others change with their neighbours."""
    if number >= many - still:
        return number
    return number + 1 if number % 2 == 0 else number - 1


def slow_turn(numbers, strands, n, token):
    (q, r), (g, f) = numbers[n], strands[n]
    if len(token) == 1:
        return (slow_turned(token[0], r, f),)
    label, middle, down, up = token
    return (slow_turned(label, q, g), middle, up, down)


def slow_backward(numbers, strands, filling):
    last = len(filling.word) - 1
    rows = []
    for g, j, kind, number in filling.entries:
        side = 0 if kind == "swap" else 1
        m = filling.meeting(g, j)
        rows.append((last - j, last - g, kind, slow_turned(number, numbers[m][side], strands[m][side])))
    return Filling(turned(filling.word), filling.rank + rise(filling.word), sorted(rows))


class TokensTest(Errors, unittest.TestCase):
    def test_labels_and_colours(self):
        numbers, strands = Numbers([(5, 4), (2, 3)]), Numbers([(1, 2), (2, 1)])
        self.assertEqual([turn_token(numbers, strands, 0, (k, 7, 8, 9)) for k in range(5)], [
            (1, 7, 9, 8), (0, 7, 9, 8), (3, 7, 9, 8), (2, 7, 9, 8), (4, 7, 9, 8),
        ])
        self.assertEqual([turn_token(numbers, strands, 0, [k]) for k in range(4)], [(1,), (0,), (2,), (3,)])
        self.assertEqual([turn_token(numbers, strands, 1, (k, 0, 0, 1)) for k in range(2)], [(0, 0, 1, 0), (1, 0, 1, 0)])
        self.assertEqual([turn_token(numbers, strands, 1, (k,)) for k in range(3)], [(1,), (0,), (2,)])

    def test_twice(self):
        for kept, strands in even_handed():
            for n in range(kept.top):
                for x, other in pairs_at(kept, n):
                    back = tokens(kept, n, other, x)
                    for token in tokens(kept, n, x, other):
                        found = turn_token(kept.numbers, strands, n, token)
                        self.assertTrue(all_tuples(found))
                        self.assertEqual(found, slow_turn(kept.numbers, strands, n, token))
                        self.assertIn(found, back)
                        self.assertEqual(turn_token(kept.numbers, strands, n, list(found)), token)
                    for peak in peaks(kept, n, x, other):
                        self.assertEqual(turn_peak(turn_peak(peak)), peak)
                        self.assertIn(turn_peak(peak), peaks(kept, n, other, x))

    def test_peaks(self):
        self.assertEqual(turn_peak((3, 1, 2)), (3, 2, 1))
        self.assertEqual(turn_peak([3, 1, 1]), (3, 1, 1))

    def test_refused(self):
        one = Numbers.steady(1, 1)
        for rank in (-1, True, None):
            self.refused(BadRank, {"rank": rank}, turn_token, one, one, rank, (0,))
        for pair, strand in (((2, 2), (1, 0)), ((2, 2), (0, 1)), ((1, 1), (3, 1)), ((1, 1), (1, 3)),
                             ((1, 2), (1, -2)), ((0, -2), (0, -2)), ((0, 0), (2, 0))):
            self.refused(BadRule, {"rank": 4}, turn_token, Numbers([pair], tail=pair), Numbers([], tail=strand), 4, (0,))
        self.assertEqual(turn_token(Numbers.steady(0, 2), Numbers.steady(0, 0), 4, (0,)), (1,))


class MayTurnTest(Errors, unittest.TestCase):
    def test_all(self):
        seen = 0
        for kept in all_kept() + [kept for kept, _ in even_handed()]:
            for n in range(kept.top):
                web = kept.web
                even = web.ups[n] == web.downs[n] and (n == 0 or web.ups[n - 1] == web.downs[n - 1])
                for g in range(-2, 5):
                    for f in range(-2, 6):
                        told = may_turn(kept, n, g, f)
                        want = even and has_strands(web, n, g, f)
                        self.assertIs(told, want and pair_turns(kept.pair_at(n), (g, f)))
                        seen += told
        self.assertGreater(seen, 30)

    def test_neighbours(self):
        # The ups and downs above rank 1 differ, and so rank 2 has one neighbour that is not even.
        kept = Kept(Web([[[1]], [[1]], [[1]]], downs=[[[1]], [[2]], [[1]]]), Numbers([(1, 1), (1, 1), (0, 1)]))
        self.assertEqual([may_turn(kept, n, 1, f) for n, f in ((0, 1), (1, 0), (2, 0))], [True, False, False])
        self.assertFalse(may_turn(kept, 2, 0, 1))
        flat = Kept(Web([[[1]], [[1]], [[1]]]), Numbers([(1, 1), (1, 0), (0, 1)]))
        self.assertTrue(may_turn(flat, 2, 0, 1))

    def test_refused(self):
        kept = Kept(Web.shapes(2), Numbers.steady(1, 1))
        for rank in (-1, 3, True, None):
            self.refused(BadRank, {"rank": rank}, may_turn, kept, rank, None, None)
        for wrong in (True, None, "1"):
            self.refused(BadNumber, {"name": "g"}, may_turn, kept, 2, wrong, wrong)
            self.refused(BadNumber, {"name": "f"}, may_turn, kept, 2, 1, wrong)
        self.refused(Unseen, {"rank": 3}, may_turn, kept, 2, 1, 1)


class EvenRuleTest(Errors, unittest.TestCase):
    def test_even_handed(self):
        for kept, strands in even_handed():
            rule = even_rule(kept, strands)
            self.assertIsInstance(rule, EvenRule)
            self.assertEqual((rule.WORD, EvenRule.WORD), ("even", "even"))
            self.assertEqual((rule.kept, rule.strands), (kept, strands))
            self.assertIs(is_even_handed(rule, strands), True)
            for n in range(kept.top):
                for x, other in pairs_at(kept, n):
                    row = rule.token_numbers(n, x, other)
                    self.assertEqual(sorted(row), list(range(kept.above(n)[x][other])))
                    self.assertTrue(all_tuples(row))
                    for peak, token in rule.match(n, x, other):
                        self.assertEqual(
                            rule.token_of(n, other, x, turn_peak(peak)), slow_turn(kept.numbers, strands, n, token)
                        )
                        self.assertEqual(rule.peak_of(n, x, other, token), peak)
                    if x < other:
                        self.assertEqual(row, tuple(range(len(row))))

    def test_round_pairs(self):
        """From a place back to it both lists are arranged: those alone, then twos by the lesser one."""
        for kept, strands in even_handed():
            rule = EvenRule(kept, strands)
            for n in range(kept.top):
                for x in range(kept.sizes[n]):
                    found, told = peaks(kept, n, x, x), tokens(kept, n, x, x)
                    lists = []
                    for row, turn in ((found, turn_peak), (told, lambda one: slow_turn(kept.numbers, strands, n, one))):
                        alone = [one for one in row if turn(one) == one]
                        twos = [
                            both for at, one in enumerate(row) for both in (one, turn(one)) if row.index(turn(one)) > at
                        ]
                        lists.append(alone + twos)
                    self.assertEqual(dict(rule.match(n, x, x)), dict(zip(*lists)))

    def test_known(self):
        kept, strands = even_handed()[4]
        self.assertEqual(kept.pair_at(0), (1, 4))
        # Peaks (0, s, t) with two strands each: the two alone first, then the two others.
        self.assertEqual(EvenRule(kept, strands).token_numbers(0, 0, 0), (2, 0, 1, 3))
        kept, strands = even_handed()[5]
        self.assertEqual(peaks(kept, 1, 0, 0), ((0, 0, 0), (0, 0, 1), (0, 1, 0), (0, 1, 1), (1, 0, 0)))
        self.assertEqual(EvenRule(kept, strands).token_numbers(1, 0, 0), (2, 0, 1, 3, 4))
        strands = even_handed()[6][1]
        self.assertEqual(EvenRule(kept, strands).token_numbers(1, 0, 0), (0, 3, 4, 1, 2))

    def test_rules_that_are_not(self):
        one = Numbers.steady(1, 1)
        kept = Kept(Web.shapes(4), one)
        self.assertTrue(is_even_handed(Rule(kept), one))
        self.assertFalse(is_even_handed(Rule(kept), Numbers.steady(1, 3)))
        self.assertFalse(is_even_handed(Rule(kept), Numbers.steady(3, 1)))
        shifted = ShiftRule(kept, [[], [1], [], []])
        self.assertTrue(is_even_handed(shifted, one))
        stairs, strands = even_handed()[5]
        self.assertFalse(is_even_handed(Rule(stairs), strands))
        self.assertFalse(is_even_handed(EvenRule(stairs, strands), even_handed()[6][1]))
        self.assertTrue(is_even_handed(OwnRule(stairs, [(1, 0, 0, (3, 0, 1, 2, 4))]), strands))
        self.assertFalse(is_even_handed(OwnRule(stairs, [(1, 0, 0, (3, 0, 2, 1, 4))]), strands))

    def test_unlike_places(self):
        kept = Kept(Web([[[1, 1]], [[1, 1, 1], [1, 1, 1]]]), Numbers([(1, 2), (3, 0)]))
        strands = Numbers([(1, 2), (3, 0)])
        self.assertEqual(peaks(kept, 1, 0, 1), ((0, 0, 0), (1, 0, 0), (2, 0, 0)))
        self.assertTrue(is_even_handed(Rule(kept), strands))
        for pair in ((0, 1), (1, 0), (0, 0), (1, 1)):
            rule = OwnRule(kept, [(1,) + pair + ((1, 0, 2),)])
            self.assertIs(is_even_handed(rule, strands), pair[0] == pair[1])
        both = OwnRule(kept, [(1, 0, 1, (1, 2, 0)), (1, 1, 0, (1, 2, 0))])
        self.assertTrue(is_even_handed(both, strands))

    def test_unlike_webs(self):
        for kept in small_kept():
            if not kept.web.is_even:
                self.assertFalse(is_even_handed(Rule(kept), Numbers.steady(1, 1)))
        last = Kept(Web([[[1]], [[1]]], downs=[[[1]], [[2]]]), Numbers([(1, 1), (1, 1)]))
        self.assertFalse(is_even_handed(Rule(last), Numbers([(1, 1), (1, 1)])))

    def test_refused(self):
        one = Numbers.steady(1, 1)
        for make in (EvenRule, even_rule):
            last = Kept(Web([[[1]], [[1]], [[1]]], downs=[[[1]], [[2]], [[3]]]), Numbers([(1, 1), (1, 1), (1, 1)]))
            self.refused(NotEven, {"rank": 1}, make, last, one)
            lower = Kept(Web.subsets(4), Numbers.falling(4))
            self.refused(NotPositive, {"rank": 3}, make, lower, Numbers.steady(7, 7))
            both = Kept(
                Web(list(Web.subsets(4).ups) + [[[1]]], downs=list(Web.subsets(4).downs) + [[[2]]]),
                Numbers.falling(4).changed(4, (1, -2)),
            )
            self.refused(NotEven, {"rank": 4}, make, both, one)
            shapes = Kept(Web.shapes(4), one)
            self.refused(BadRule, {"rank": 2}, make, shapes, Numbers([(1, 1), (1, 1), (1, 3)]))
            self.refused(BadRule, {"rank": 0}, make, shapes, Numbers.steady(1, 3))
            self.refused(BadRule, {"rank": 3}, make, shapes, Numbers([(1, 1)] * 3 + [(3, 1), (1, 1)]))
            # At the top nothing is asked.
            self.assertEqual(make(shapes, Numbers([(1, 1)] * 4, tail=(7, -7))).kept, shapes)
            tree = Kept(Web.tree([2, 3]), Numbers([(0, 2), (0, 3)]))
            self.refused(BadRule, {"rank": 1}, make, tree, Numbers([(0, 2), (0, 1)]))
        rule = EvenRule(Kept(Web.shapes(2), one), one)
        for call in (rule.token_numbers, rule.match, lambda *told: rule.token_of(*told, 5)):
            self.refused(BadRank, {"rank": 3}, call, 3, -1, -1)
            self.refused(BadPlace, {"rank": 1, "place": -1}, call, 1, -1, -1)
            self.refused(BadPlace, {"rank": 1, "place": 1}, call, 1, 0, 1)
            self.refused(Unseen, {"rank": 3}, call, 2, 1, 0)
        self.refused(BadRule, {"rank": 1}, rule.token_of, 1, 0, 0, (0, 0, 1))


class BackwardTest(Errors, unittest.TestCase):
    def some(self):
        for kept, strands in even_handed()[:8]:
            for n in range(3):
                for word in words_to(4) + ["uuuddd", "uududd"]:
                    if all(has_turnings(kept.numbers, strands, m) for m in range(climb(word, n))):
                        if sum(normal_row(kept.numbers, word, n)) <= 200:
                            yield kept.numbers, strands, word, n

    def test_fillings(self):
        seen = own = 0
        for numbers, strands, word, n in self.some():
            found = list(fillings_of(numbers, word, n))
            back = list(fillings_of(numbers, turned(word), n + rise(word))) if n + rise(word) >= 0 else []
            for filling in found:
                told = turned_filling(numbers, strands, filling)
                self.assertEqual(told, slow_backward(numbers, strands, filling))
                self.assertEqual((told.word, told.rank), (turned(word), n + rise(word)))
                self.assertIn(told, back)
                self.assertEqual(turned_filling(numbers, strands, told), filling)
                self.assertIs(is_own_turn(numbers, strands, filling), told == filling)
                seen += 1
                own += told == filling
        self.assertGreater(seen, 500)
        self.assertGreater(own, 50)

    def test_walks(self):
        seen = 0
        for kept, strands in even_handed():
            rule = EvenRule(kept, strands)
            for place in places_of(kept.web):
                for word in words_to(4) + ["uuuddd", "duuddu"]:
                    if not stays(kept.web, place[0], word):
                        continue
                    for walk in slow_walks(kept.web, place, word)[:12]:
                        done = treat(rule, place, word, walk)
                        back = walk_back(kept.web, place, word, walk)
                        told = treat(rule, done.last_place, turned(word), back)
                        self.assertEqual(told.filling, turned_filling(kept.numbers, strands, done.filling))
                        t, s = done.filling.left()
                        self.assertEqual(told.walk, walk_back(kept.web, place, "d" * t + "u" * s, done.walk))
                        seen += 1
        self.assertGreater(seen, 1000)

    def test_both_even_or_both_odd(self):
        for numbers, strands, word, n in self.some():
            if word != turned(word):
                continue
            found = list(fillings_of(numbers, word, n))
            for c, many in enumerate(normal_row(numbers, word, n)):
                own = [one for one in found if one.many_marks == c and is_own_turn(numbers, strands, one)]
                self.assertEqual((many - len(own)) % 2, 0)

    def test_words_and_their_turns(self):
        seen = 0
        for kept, strands in even_handed()[:8]:
            numbers = kept.numbers
            for n in range(3):
                for v in words_to(3):
                    word = v + turned(v)
                    if sum(normal_row(numbers, word, n)) > 300:
                        continue
                    if not all(has_turnings(numbers, strands, m) for m in range(climb(v, n))):
                        continue
                    own = [one for one in fillings_of(numbers, word, n) if is_own_turn(numbers, strands, one)]
                    row = spread_word(numbers, strands, n, v)
                    seen += len(own)
                    self.assertEqual([sum(one.left()[0] == j for one in own) for j in range(n + 1)], list(row))
                    self.assertTrue(all(one.left()[0] <= n for one in own))
        self.assertGreater(seen, 200)

    def test_refused(self):
        one = Numbers.steady(1, 1)
        two = Numbers([(1, 1), (1, 2)])
        for call in (turned_filling, is_own_turn):
            self.refused(BadFilling, {"at": -1}, call, one, two, 5)
            self.refused(BadFilling, {"at": 0}, call, one, two, Filling("ud", 1, [(0, 1, "swap", 1)]))
            self.refused(BadFilling, {"at": 1}, call, one, two, Filling("ud", 0, [(0, 1, "swap", 0)]))
            # Only the ranks at which letters meet are asked, in the order of the entries.
            good = Filling("uud", 0, [(0, 2, "mark", 0), (1, 2, "swap", 0)])
            self.refused(BadRule, {"rank": 1}, call, one, two, good)
            self.refused(BadRule, {"rank": 0}, call, one, Numbers.steady(1, 0), good)
            call(one, Numbers([(1, 1), (1, 1), (7, 7)]), good)
        self.assertEqual(turned_filling(one, Numbers.steady(9, 9), Filling("uu", 1, [])), Filling("dd", 3, []))
        self.assertFalse(is_own_turn(one, one, Filling("uu", 1, [])))
        self.assertTrue(is_own_turn(one, one, Filling("", 1, [])))
        self.assertTrue(is_own_turn(one, one, Filling("du", 1, [])))


class OwnTurnsTest(Errors, unittest.TestCase):
    def test_counts(self):
        seen = 0
        rows = [(kept.numbers, strands) for kept, strands in even_handed()]
        rows.append((Numbers([(2, 3), (4, 2), (3, 1)]), Numbers([(0, 1), (2, 0), (1, 1)])))
        for numbers, strands in rows:
            for i in range(3):
                for k in range(5):
                    if not all(has_turnings(numbers, strands, m) for m in range(i, i + k)):
                        continue
                    many = numbers.gains(i, k)
                    if many > 2000:
                        self.refused(TooMany, {"limit": 2000}, own_turns, numbers, strands, i, k)
                        continue
                    seen += 1
                    told = own_turns(numbers, strands, i, k)
                    self.assertIs(type(told), int)
                    self.assertEqual(told, single_ways(numbers, strands, i, k))
                    self.assertEqual((many - told) % 2, 0)
                    if many < 500 and all(numbers[m][1] >= 0 for m in range(i + k)):
                        found = fillings_of(numbers, turning(k), i, limit=10 ** 6)
                        own = [
                            one for one in found
                            if one.many_marks == k and slow_backward(numbers, strands, one) == one
                        ]
                        self.assertEqual(told, len(own))
        self.assertGreater(seen, 60)

    def test_ranks_below(self):
        # Below the start there are neither turnings nor numbers that a filling could take.
        numbers = Numbers([(10 ** 12, -5), (1, 1), (1, 1)])
        self.assertEqual(own_turns(numbers, Numbers([(3, 3), (1, 1), (1, 1)]), 1, 2), 2)

    def test_refused(self):
        one = Numbers.steady(1, 1)
        for wrong in (-1, True, None):
            self.refused(BadRank, {"rank": wrong}, own_turns, one, one, wrong, -1)
            self.refused(BadNumber, {"name": "steps"}, own_turns, one, one, 0, wrong)
        other = Numbers([(1, 1), (1, 1), (1, 0)])
        self.refused(BadRule, {"rank": 2}, own_turns, one, other, 0, 9)
        self.assertEqual(own_turns(one, other, 0, 2), 2)
        self.assertEqual(own_turns(one, Numbers.steady(0, 0), 5, 0), 1)
        self.refused(TooMany, {"limit": 2000}, own_turns, one, one, 0, 7)
        self.assertEqual(own_turns(Numbers.steady(0, 2000), Numbers.steady(0, 0), 3, 1), 0)
        self.refused(TooMany, {"limit": 2000}, own_turns, Numbers.steady(0, 2001), Numbers.steady(0, 1), 3, 1)


if __name__ == "__main__":
    unittest.main()
