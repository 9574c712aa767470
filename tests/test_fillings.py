import unittest
from itertools import combinations, product

from upsanddowns.errors import BadFilling, BadNumber, BadRank, BadWord, NotPositive, TooMany
from upsanddowns.fillings import Filling, check_filling, filling_count, fillings_of
from upsanddowns.normal import normal_row
from upsanddowns.numbers import Numbers
from upsanddowns.words import dips

from tests.helpers import Errors, all_tuples, turning, words_to

NUMBERS = [
    Numbers.steady(1, 1), Numbers.steady(2, 1), Numbers.steady(0, 2), Numbers.steady(1, 0),
    Numbers([(1, 2), (2, 1), (0, 1), (1, 3)]), Numbers([(0, 0), (2, 2), (1, 0)], tail=(2, 1)),
]


def letter_pairs(word):
    """The pairs of a u and a later d, ascending."""
    return [
        (g, j) for g in range(len(word)) for j in range(g + 1, len(word)) if word[g] == "u" and word[j] == "d"
    ]


def slow_meeting(word, n, marks, g, j):
    passed = sum(one > g and two < j for one, two in marks)
    return n + word[:g].count("u") - word[:j].count("d") + passed


def slow_live(marks, g, j):
    return not any(one == g and two < j or two == j and one > g for one, two in marks)


def slow_fault(numbers, word, n, entries):
    """The number of the first fault that point 65 finds, None if the entries are a filling."""
    marks = [(g, j) for g, j, kind, _ in entries if kind == "mark"]
    taken = set()
    for at, (g, j, kind, number) in enumerate(entries):
        if kind == "mark" and {g, j} & taken:
            return at
        m = slow_meeting(word, n, marks, g, j)
        if not slow_live(marks, g, j) or m < 0 or number >= numbers[m][0 if kind == "swap" else 1]:
            return at
        if kind == "mark":
            taken |= {g, j}
    told = {(g, j) for g, j, _, _ in entries}
    missing = [pair for pair in letter_pairs(word) if slow_live(marks, *pair) and pair not in told]
    if missing or word.count("d") - len(marks) > n:
        return len(entries)
    return None


def candidates(word, most):
    """All rows of entries with numbers below most, also such as are no fillings."""
    kinds = [None] + [(kind, number) for kind in ("swap", "mark") for number in range(most)]
    pairs = letter_pairs(word)
    for chosen in product(kinds, repeat=len(pairs)):
        yield tuple(pair + kind for pair, kind in zip(pairs, chosen) if kind is not None)


class FillingTest(Errors, unittest.TestCase):
    def test_attributes(self):
        filling = Filling("uudd", 3, [[0, 2, "mark", 5], (1, 2, "swap", 0)])
        self.assertEqual((filling.word, filling.rank), ("uudd", 3))
        self.assertEqual(filling.entries, ((0, 2, "mark", 5), (1, 2, "swap", 0)))
        self.assertTrue(all_tuples(filling.entries))
        self.assertEqual(filling.many_marks, 1)
        self.assertEqual(filling.marks(), ((0, 2, 5),))
        self.assertEqual(filling.left(), (1, 1))
        self.assertEqual(len(filling), 2)
        self.assertEqual(list(filling), [(0, 2, "mark", 5), (1, 2, "swap", 0)])

    def test_without_entries(self):
        for word in ("", "u", "ddd", "dduu", "ud"):
            filling = Filling(word, 0, ())
            self.assertEqual((filling.entries, len(filling), filling.marks(), filling.many_marks), ((), 0, (), 0))
            self.assertEqual(filling.left(), (word.count("d"), word.count("u")))
            self.assertEqual(list(filling), [])

    def test_holding_pairs(self):
        filling = Filling("uudd", 3, [(0, 2, "mark", 5), (1, 2, "swap", 0)])
        for pair in ((0, 2), [0, 2], (1, 2), [1, 2]):
            self.assertIs(pair in filling, True)
        for other in ((0, 3), (1, 3), (2, 0), 0, None, "02", (0,), (0, 2, "mark", 5), (0, 2, 5), [], {}, ("0", 2), [[0], 2]):
            self.assertIs(other in filling, False)

    def test_equality(self):
        one = Filling("uudd", 3, [(0, 2, "mark", 5)])
        self.assertTrue(one == Filling("uudd", 3, [[0, 2, "mark", 5]]))
        for other in (Filling("uddd", 3, [(0, 2, "mark", 5)]), Filling("uudd", 2, [(0, 2, "mark", 5)]),
                      Filling("uudd", 3, [(0, 2, "swap", 5)]), Filling("uudd", 3, []), None, one.entries, "uudd"):
            self.assertFalse(one == other)
            self.assertTrue(one != other)

    def test_changed_behind_the_call(self):
        rows = [[0, 1, "swap", 0]]
        filling = Filling("ud", 1, rows)
        rows[0][3] = 7
        rows.append(5)
        self.assertEqual(filling.entries, ((0, 1, "swap", 0),))

    def test_meeting(self):
        for word in words_to(5):
            pairs = letter_pairs(word)
            for many in range(3):
                for marks in combinations(pairs, many):
                    filling = Filling(word, 4, [pair + ("mark", 0) for pair in marks])
                    for g in range(len(word)):
                        for j in range(len(word)):
                            if (g, j) in pairs:
                                self.assertEqual(filling.meeting(g, j), slow_meeting(word, 4, marks, g, j))
                            else:
                                self.refused(BadFilling, {"at": -1}, filling.meeting, g, j)

    def test_corners(self):
        for word in words_to(5):
            ups = [at for at in range(len(word)) if word[at] == "u"]
            downs = [at for at in range(len(word)) if word[at] == "d"]
            for many in range(3):
                for marks in combinations(letter_pairs(word), many):
                    filling = Filling(word, 2, [pair + ("mark", 0) for pair in marks])
                    for s in range(len(ups) + 1):
                        for t in range(len(downs) + 1):
                            inside = [g for g, j in marks if g not in ups[:s] and j in downs[:t]]
                            self.assertEqual(filling.rank_at(s, t), 2 + s - t + len(inside))

    def test_letters_left(self):
        filling = Filling("ududud", 0, [(0, 1, "mark", 0), (2, 5, "mark", 0)])
        self.assertEqual(filling.left(), (1, 1))
        # Nothing forbids here that a letter is in two marks.
        self.assertEqual(Filling("uudd", 0, [(0, 2, "mark", 0), (0, 3, "mark", 0)]).left(), (0, 1))

    def test_refused(self):
        self.refused(BadWord, {"at": -1}, Filling, None, -1, 5)
        self.refused(BadWord, {"at": 1}, Filling, "ux", -1, 5)
        for rank in (-1, True, None):
            self.refused(BadRank, {"rank": rank}, Filling, "ud", rank, 5)
        for entries in (None, 5, "ud", {}):
            self.refused(BadFilling, {"at": -1}, Filling, "ud", 0, entries)
        good = (0, 2, "swap", 0)
        for entry in (None, 5, "udud", (0, 3, "mark"), (0, 3, "mark", 0, 0), (2, 3, "mark", 0), (0, 1, "mark", 0),
                      (0, 4, "mark", 0), (-1, 3, "mark", 0), (0, -1, "mark", 0), (True, 3, "mark", 0),
                      (0, 3, "Mark", 0), (0, 3, None, 0), (0, 3, ["mark"], 0), (0, 3, "mark", -1),
                      (0, 3, "mark", True), (0, 3, "mark", None), (0, 2, "mark", 0), good, ("0", 3, "mark", 0)):
            self.refused(BadFilling, {"at": 1}, Filling, "uudd", 0, [good, entry, 5])
        self.refused(BadFilling, {"at": 1}, Filling, "uudd", 0, [(1, 2, "swap", 0), (0, 3, "swap", 0)])
        self.refused(BadFilling, {"at": 0}, Filling, "du", 0, [(1, 0, "swap", 0)])
        self.refused(BadFilling, {"at": 2}, Filling, "uudd", 0, [(0, 2, "swap", 0), (1, 2, "swap", 0), (0, 3, "swap", 0)])

    def test_calls_refused(self):
        filling = Filling("uudd", 1, [])
        for g, j in ((2, 3), (0, 1), (0, 4), (-1, 2), (True, 2), (0, None), (0, -1), ("0", 2), (4, 2)):
            self.refused(BadFilling, {"at": -1}, filling.meeting, g, j)
        for wrong in (-1, 3, True, None):
            self.refused(BadNumber, {"name": "ups"}, filling.rank_at, wrong, -1)
            self.refused(BadNumber, {"name": "downs"}, filling.rank_at, 2, wrong)
        self.refused(BadFilling, {"at": -1}, Filling("du", 1, []).meeting, 1, 0)
        self.refused(BadFilling, {"at": -1}, Filling("uddu", 3, []).meeting, 3, 1)
        self.refused(BadFilling, {"at": -1}, Filling("udud", 0, [(0, 1, "mark", 0)]).meeting, 2, 1)
        self.assertEqual(Filling("dud", 1, []).meeting(1, 2), 0)


class CheckTest(Errors, unittest.TestCase):
    def test_all_candidates(self):
        good = bad = 0
        for word in words_to(4) + ["uuddd", "uduud"]:
            for n in range(3):
                for numbers in (NUMBERS[0], NUMBERS[4], Numbers([(2, -1), (1, 2)])):
                    for entries in candidates(word, 2 if len(letter_pairs(word)) < 5 else 1):
                        fault = slow_fault(numbers, word, n, entries)
                        filling = Filling(word, n, entries)
                        if fault is None:
                            good += 1
                            self.assertIs(check_filling(numbers, filling), filling)
                        else:
                            bad += 1
                            with self.assertRaises(BadFilling) as caught:
                                check_filling(numbers, filling)
                            self.assertEqual(caught.exception.at, fault)
        self.assertGreater(good, 100)
        self.assertGreater(bad, 10000)

    def test_first_fault(self):
        one = Numbers.steady(1, 1)
        for other in (None, 5, (), [(0, 1, "mark", 0)], "ud"):
            self.refused(BadFilling, {"at": -1}, check_filling, one, other)
        # A letter in two marks; a pair that is not live; a number that is too great; a rank below 0.
        for word, n, entries, at in (
            ("uud", 1, [(0, 2, "mark", 0), (1, 2, "mark", 0)], 0),
            ("udd", 1, [(0, 1, "mark", 0), (0, 2, "mark", 0)], 1),
            ("udd", 1, [(0, 1, "mark", 0), (0, 2, "swap", 0)], 1),
            ("ud", 1, [(0, 1, "swap", 1)], 0),
            ("ud", 1, [(0, 1, "mark", 1)], 0),
            ("dud", 0, [(1, 2, "swap", 0)], 0),
            ("ud", 0, [], 0),
            ("ud", 0, [(0, 1, "swap", 0)], 1),
            ("dd", 1, [], 0),
            ("uudd", 3, [(0, 2, "swap", 0), (0, 3, "swap", 0), (1, 2, "swap", 0)], 3),
        ):
            self.refused(BadFilling, {"at": at}, check_filling, one, Filling(word, n, entries))
        self.refused(BadFilling, {"at": 0}, check_filling, Numbers.steady(1, -1), Filling("ud", 1, [(0, 1, "mark", 0)]))

    def test_good(self):
        one = Numbers.steady(1, 1)
        for word, n, entries in (("", 0, ()), ("uuu", 0, ()), ("dd", 2, ()), ("dduu", 2, ()), ("ud", 1, [(0, 1, "swap", 0)])):
            filling = Filling(word, n, entries)
            self.assertIs(check_filling(one, filling), filling)


class ListTest(Errors, unittest.TestCase):
    def test_against_candidates(self):
        for word in words_to(4):
            for n in range(3):
                for numbers in NUMBERS:
                    most = 4 if len(letter_pairs(word)) < 3 else 3 if len(letter_pairs(word)) < 4 else 2
                    if max(max(numbers[m]) for m in range(n + 5)) > most:
                        continue
                    want = [one for one in candidates(word, most) if slow_fault(numbers, word, n, one) is None]
                    found = list(fillings_of(numbers, word, n))
                    self.assertEqual([one.entries for one in found], sorted(want))

    def test_counts(self):
        for numbers in NUMBERS:
            for word in words_to(6) + ["uuuuddd", "uududdud"]:
                for n in range(4):
                    row = normal_row(numbers, word, n)
                    if sum(row) > 300:
                        self.refused(TooMany, {"limit": 300}, lambda: list(fillings_of(numbers, word, n, limit=300)))
                        continue
                    found = list(fillings_of(numbers, word, n, limit=sum(row)))
                    self.assertTrue(all(isinstance(one, Filling) for one in found))
                    self.assertTrue(all(one.word == word and one.rank == n for one in found))
                    told = [one.entries for one in found]
                    self.assertEqual(told, sorted(set(told)))
                    for c, many in enumerate(row):
                        self.assertEqual(sum(one.many_marks == c for one in found), many)
                        self.assertEqual(filling_count(numbers, word, n, c), many)
                    self.assertEqual(filling_count(numbers, word, n, len(row)), 0)
                    for one in found[:20]:
                        self.assertIs(check_filling(numbers, one), one)
                        a, b = word.count("u"), word.count("d")
                        self.assertEqual(one.left(), (b - one.many_marks, a - one.many_marks))
                    if dips(word, n):
                        self.assertEqual(found, [])

    def test_from_fresh_places(self):
        one = Numbers.steady(1, 1)
        self.assertEqual([filling_count(one, turning(k), 0, k) for k in range(7)], [1, 1, 2, 6, 24, 120, 720])
        self.assertEqual(len(list(fillings_of(one, turning(6), 0))), 720)
        self.assertEqual(len(list(fillings_of(Numbers([(9, 2), (3, 1)]), "uudd", 0))), 2 * 7)

    def test_limits(self):
        one = Numbers.steady(1, 1)
        self.assertEqual(sum(normal_row(one, "uudd", 2)), 7)
        self.assertEqual(len(list(fillings_of(one, "uudd", 2, limit=7))), 7)
        walk = fillings_of(one, "uudd", 2, limit=6)
        self.refused(TooMany, {"limit": 6}, lambda: next(walk))
        self.assertEqual(list(fillings_of(one, "dd", 1, limit=0)), [])
        self.refused(TooMany, {"limit": 0}, lambda: next(fillings_of(one, "", 0, limit=0)))
        # 2000 is the limit that is not told.
        self.assertEqual(len(list(fillings_of(Numbers.steady(0, 2000), "ud", 0))), 2000)
        self.refused(TooMany, {"limit": 2000}, lambda: next(fillings_of(Numbers.steady(0, 2001), "ud", 0)))

    def test_great_numbers_that_lead_nowhere(self):
        # The first d may be marked in many ways, but the second one then has no way to go on.
        many = 10 ** 12
        for numbers in (Numbers([(0, 0), (0, many)]), Numbers([(0, 0), (many, many)]), Numbers([(many, 0), (0, many)])):
            self.assertEqual(list(fillings_of(numbers, "uudd", 0)), [])
            self.assertEqual(filling_count(numbers, "uudd", 0, 2), 0)
        self.assertEqual(filling_count(Numbers.steady(many, many), "ud", 1, 0), many)

    def test_refused(self):
        lower = Numbers([(1, 1), (1, 1), (1, -1)])
        calls = [
            lambda word, rank, many: list(fillings_of(lower, word, rank, limit=many)),
            lambda word, rank, many: filling_count(lower, word, rank, many),
        ]
        for call, name in zip(calls, ("limit", "many")):
            self.refused(BadWord, {"at": -1}, call, 5, -1, -1)
            self.refused(BadWord, {"at": 2}, call, "uux", -1, -1)
            for rank in (-1, True, None):
                self.refused(BadRank, {"rank": rank}, call, "uuu", rank, -1)
            for wrong in (-1, True, None, "1"):
                self.refused(BadNumber, {"name": name}, call, "uuu", 0, wrong)
            self.refused(NotPositive, {"rank": 2}, call, "uuu", 0, 0)
            # The ranks beneath the word are looked at, too.
            self.refused(NotPositive, {"rank": 2}, call, "", 3, 0)
            self.refused(NotPositive, {"rank": 2}, call, "d" * 9, 9, 0)
            call("uud", 0, 99)
            call("", 2, 99)
        below = Numbers([(1, -1)], tail=(1, -1))
        self.refused(NotPositive, {"rank": 0}, lambda: list(fillings_of(below, "", 10 ** 15, limit=0)))
        self.refused(NotPositive, {"rank": 0}, filling_count, below, "", 10 ** 15, 0)
        late = Numbers([(1, -1), (1, 1)])
        self.refused(NotPositive, {"rank": 0}, lambda: list(fillings_of(late, "u", 1)))
        self.refused(NotPositive, {"rank": 0}, filling_count, late, "u", 1, 0)

    def test_errors_come_with_the_first_item(self):
        told = fillings_of(Numbers.steady(1, 1), "x", 0)
        self.refused(BadWord, {"at": 0}, lambda: next(told))


if __name__ == "__main__":
    unittest.main()
