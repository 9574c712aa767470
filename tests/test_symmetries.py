import random
import unittest
from fractions import Fraction
from itertools import permutations, product
from math import factorial

from upsanddowns.closed import closed_total
from upsanddowns.errors import (
    BadNumber, BadPlace, BadRank, BadReading, BadSize, BadSymmetry, BadWord, NoneSuch, TooMany,
)
from upsanddowns.growth import Growth
from upsanddowns.kept import Kept
from upsanddowns.normal import told_count
from upsanddowns.numbers import Numbers
from upsanddowns.partings import Parting, is_fair
from upsanddowns.symmetries import (
    Symmetry, group_of, is_symmetry, orbit_sizes, orbits, symmetries_of, turned_by_fixed, turned_total,
)
from upsanddowns.webs import Web

from tests.helpers import (
    Errors, all_kept, all_tuples, any_webs, closed_words, places_at, random_web, reflected, renumbered, stays, value,
    words_to,
)


def slow_symmetries(web):
    """All symmetries, by trying all orders of all ranks."""
    found = []
    for rows in product(*[list(permutations(range(size))) for size in web.sizes]):
        if all(
            web.ups[n][rows[n][x]][rows[n + 1][y]] == web.ups[n][x][y]
            and web.downs[n][rows[n][x]][rows[n + 1][y]] == web.downs[n][x][y]
            for n in range(web.top) for x in range(web[n]) for y in range(web[n + 1])
        ):
            found.append(rows)
    return sorted(found)


def small_webs():
    return [web for web in any_webs() if max(web.sizes) <= 3] + [
        Web.subsets(3), Web.tree([2, 2]), Web.tree([3, 1]), Web([[[1, 1, 1, 2]]]), Web([[[1, 1]]], downs=[[[1, 2]]]),
        Web([[[1, 0], [0, 1]], [[1], [1]]]), random_web(200, [1, 2, 2], 1), random_web(201, [2, 3, 2], 1),
        Web([[[1, 1], [1, 1]], [[1, 0, 1], [0, 1, 1]]]), renumbered(Web.tree([2, 1, 2]), 3),
        Web([[[], []], []], sizes=[2, 0, 3]),
    ]


def symmetric_kept():
    """Kept webs, each with all its symmetries."""
    found = []
    for kept in all_kept():
        if sum(kept.sizes) <= 40:
            try:
                found.append((kept, symmetries_of(kept.web, limit=200)))
            except TooMany:
                pass
    return found


def random_symmetry(dice, sizes):
    return Symmetry([dice.sample(range(size), size) for size in sizes])


def rings(row):
    """The lengths of the rings of an order."""
    seen, found = set(), []
    for start in range(len(row)):
        many, place = 0, start
        while place not in seen:
            seen.add(place)
            many, place = many + 1, row[place]
        if many:
            found.append(many)
    return found


class MadeTest(Errors, unittest.TestCase):
    def test_images(self):
        told = [[2, 0, 1], [], (0,)]
        one = Symmetry(told)
        told[0][0] = 7
        self.assertEqual(one.rows, ((2, 0, 1), (), (0,)))
        self.assertTrue(all_tuples(one.rows))
        self.assertEqual([one.image(0, x) for x in range(3)], [2, 0, 1])
        self.assertEqual((one.fixed(0), one.fixed(1), one.fixed(2), one.fixed_row()), (0, 0, 1, (0, 0, 1)))
        self.assertEqual((Symmetry([]).rows, Symmetry([]).fixed_row(), Symmetry(()).order()), ((), (), 1))
        self.assertEqual(Symmetry.still([2, 0, 1]).rows, ((0, 1), (), (0,)))
        self.assertEqual(Symmetry.still(()).rows, ())

    def test_products(self):
        dice = random.Random(1)
        for _ in range(60):
            sizes = [dice.randint(0, 6) for _ in range(3)]
            one, two, three = [random_symmetry(dice, sizes) for _ in range(3)]
            both = one.then(two)
            for n in range(3):
                for x in range(sizes[n]):
                    self.assertEqual(both.image(n, x), two.image(n, one.image(n, x)))
                self.assertEqual(one.fixed(n), sum(one.image(n, x) == x for x in range(sizes[n])))
            self.assertEqual(one.then(two).then(three), one.then(two.then(three)))
            self.assertEqual(one.then(one.undone()), Symmetry.still(sizes))
            self.assertEqual(one.undone().then(one), Symmetry.still(sizes))
            self.assertEqual(one.undone().undone(), one)
            power, many = one, 1
            while power != Symmetry.still(sizes):
                power, many = power.then(one), many + 1
            self.assertEqual(one.order(), many)
            self.assertIs(type(one.order()), int)

    def test_equality(self):
        self.assertTrue(Symmetry([[1, 0]]) == Symmetry(((1, 0),)))
        self.assertFalse(Symmetry([[1, 0]]) == Symmetry([[0, 1]]))
        self.assertFalse(Symmetry([[0]]) == Symmetry([[0], []]))
        for other in (None, ((1, 0),), [[1, 0]], 5):
            self.assertIs(Symmetry([[1, 0]]).__eq__(other), False)

    def test_refused(self):
        for rows in (None, 5, "", {}):
            self.refused(BadSymmetry, {"rank": -1}, Symmetry, rows)
        for row in (None, 5, "0", {}, [1], [0, 0], [0, 2], [-1, 0], [True, 0], [0, None], ["0"], [(0,)], [0, 1, 1]):
            self.refused(BadSymmetry, {"rank": 1}, Symmetry, [[0], row, None])
        for wrong in (None, 5, "12"):
            self.refused(BadSize, {"rank": -1}, Symmetry.still, wrong)
        for wrong in (-1, True, None, "1"):
            self.refused(BadSize, {"rank": 1}, Symmetry.still, [2, wrong, None])
        one = Symmetry([[1, 0], []])
        for rank in (-1, 2, True, None):
            self.refused(BadRank, {"rank": rank}, one.image, rank, 9)
            self.refused(BadRank, {"rank": rank}, one.fixed, rank)
        for place in (-1, 2, True, None):
            self.refused(BadPlace, {"rank": 0, "place": place}, one.image, 0, place)
        self.refused(BadSymmetry, {"rank": 1}, one.then, Symmetry([[1, 0]]))
        self.refused(BadSymmetry, {"rank": 2}, one.then, Symmetry([[1, 0], [], []]))
        self.refused(BadSymmetry, {"rank": 0}, one.then, Symmetry([[0, 1, 2], [0]]))
        self.refused(BadSymmetry, {"rank": 1}, one.then, Symmetry([[0, 1], [0]]))


class WebTest(Errors, unittest.TestCase):
    def test_all_symmetries(self):
        many = set()
        for web in small_webs():
            want = slow_symmetries(web)
            found = symmetries_of(web)
            self.assertIs(type(found), tuple)
            self.assertEqual([one.rows for one in found], want)
            many.add(len(want))
            for rows in product(*[list(permutations(range(size))) for size in web.sizes]):
                self.assertIs(is_symmetry(web, Symmetry(rows)), rows in want)
        self.assertGreater(len(many), 4)
        for web, order in ((Web.subsets(4), 24), (Web.subsets(5), 120), (Web.spaces(3), 168), (Web.shapes(6), 2),
                           (Web.tree([2, 2, 2]), 128), (Web([], sizes=[5]), 120), (Web([], sizes=[0]), 1)):
            found = symmetries_of(web)
            self.assertEqual(len(found), order)
            self.assertEqual([one.rows for one in found], sorted({one.rows for one in found}))
            self.assertTrue(all(is_symmetry(web, one) for one in found))

    def test_other_sizes(self):
        web = Web.subsets(2)
        self.assertIs(is_symmetry(web, Symmetry([[0], [1, 0]])), False)
        self.assertIs(is_symmetry(web, Symmetry([[0], [1, 0], [0], []])), False)
        self.assertIs(is_symmetry(web, Symmetry([[0], [0, 1, 2], [0]])), False)
        self.assertIs(is_symmetry(web, Symmetry([[0], [1, 0], [0]])), True)
        # Ups that are kept, and downs that are not.
        self.assertIs(is_symmetry(Web([[[1, 1]]], downs=[[[1, 2]]]), Symmetry([[0], [1, 0]])), False)
        self.assertIs(is_symmetry(Web([[[1, 2]]], downs=[[[1, 1]]]), Symmetry([[0], [1, 0]])), False)

    def test_limits(self):
        web = Web.subsets(3)
        self.assertEqual(len(symmetries_of(web, limit=6)), 6)
        for limit in (0, 1, 5):
            self.refused(TooMany, {"limit": limit}, symmetries_of, web, limit=limit)
        self.refused(TooMany, {"limit": 200}, symmetries_of, Web([], sizes=[6]))
        self.refused(TooMany, {"limit": 200}, symmetries_of, Web([], sizes=[40]))
        self.refused(TooMany, {"limit": 40}, symmetries_of, Web([], sizes=[41]))
        self.refused(TooMany, {"limit": 40}, symmetries_of, Web.subsets(6), limit=0)
        self.refused(TooMany, {"limit": 0}, symmetries_of, Web([], sizes=[0]), limit=0)
        self.assertEqual(len(symmetries_of(Web([], sizes=[6]), limit=720)), factorial(6))
        for wrong in (-1, True, None, "1"):
            self.refused(BadNumber, {"name": "limit"}, symmetries_of, Web([], sizes=[41]), limit=wrong)

    def test_rings_of_ties(self):
        # Webs in which all places of a rank look alike, but few orders keep the ties.
        ring = Web([[[int(y in (x, (x + 1) % 20)) for y in range(20)] for x in range(20)]])
        self.assertEqual(len(symmetries_of(ring)), 40)
        plane = Web([[[int((y - x) % 7 in (0, 1, 3)) for y in range(7)] for x in range(7)]])
        self.assertEqual(len(symmetries_of(plane)), 168)


class GroupTest(Errors, unittest.TestCase):
    def slow_group(self, ones):
        found = {one.rows for one in ones} | {Symmetry.still([len(row) for row in ones[0].rows]).rows}
        while True:
            more = found | {Symmetry(a).then(Symmetry(b)).rows for a in found for b in found}
            if more == found:
                return sorted(found)
            found = more

    def test_members(self):
        dice = random.Random(2)
        for _ in range(40):
            sizes = [dice.randint(0, 3), dice.randint(0, 4)]
            ones = [random_symmetry(dice, sizes) for _ in range(dice.randint(1, 3))]
            want = self.slow_group(ones)
            found = group_of(tuple(ones))
            self.assertIs(type(found), tuple)
            self.assertEqual([one.rows for one in found], want)
            self.assertTrue(all(one.rows in want for one in ones))
        still = Symmetry.still([2, 1])
        self.assertEqual(group_of([still, still]), (still,))
        self.assertEqual(group_of([Symmetry([])]), (Symmetry([]),))

    def test_limits(self):
        turn = Symmetry([[1, 2, 3, 4, 0]])
        self.assertEqual(len(group_of([turn], limit=5)), 5)
        self.refused(TooMany, {"limit": 4}, group_of, [turn], limit=4)
        self.refused(TooMany, {"limit": 0}, group_of, [Symmetry([])], limit=0)
        swap = Symmetry([[1, 0, 2, 3, 4, 5]])
        wheel = Symmetry([[1, 2, 3, 4, 5, 0]])
        self.refused(TooMany, {"limit": 200}, group_of, [swap, wheel])
        self.assertEqual(len(group_of([swap, wheel], limit=720)), 720)

    def test_refused(self):
        one, two = Symmetry([[1, 0], [0]]), Symmetry([[0, 1], [0, 1]])
        for wrong in (None, 5, "", [], (), {}):
            self.refused(BadSymmetry, {"rank": -1}, group_of, wrong, limit=-1)
        self.refused(BadSymmetry, {"rank": 1}, group_of, [one, one, two, Symmetry([])], limit=-1)
        self.refused(BadSymmetry, {"rank": 0}, group_of, [one, Symmetry([])], limit=-1)
        for limit in (-1, True, None, "1"):
            self.refused(BadNumber, {"name": "limit"}, group_of, [one], limit=limit)

    def test_orbits(self):
        seen = 0
        for kept, ones in symmetric_kept():
            found = orbits(ones, kept.sizes)
            self.assertIs(type(found), Parting)
            self.assertIs(is_fair(kept.web, found), True)
            for n in range(kept.top + 1):
                for x in range(kept.sizes[n]):
                    want = {one.image(n, x) for one in ones}
                    self.assertEqual(set(found.lots(n)[found.lot_of(n, x)]), want)
            # The number of orbits is the mean of the numbers of fixed places.
            means = [Fraction(sum(one.fixed(n) for one in ones), len(ones)) for n in range(kept.top + 1)]
            self.assertEqual(list(found.lot_sizes()), means)
            self.assertEqual(orbit_sizes([one.fixed_row() for one in ones]), found.lot_sizes())
            seen += len(ones) > 1
            for one in ones[:5]:
                small = orbits([one], kept.sizes)
                self.assertIs(is_fair(kept.web, small), True)
                group = group_of([one])
                self.assertEqual(orbits(group, list(kept.sizes)), small)
                self.assertEqual(orbit_sizes([other.fixed_row() for other in group]), small.lot_sizes())
        self.assertGreater(seen, 8)

    def test_orbits_of_any(self):
        dice = random.Random(3)
        for _ in range(40):
            sizes = [dice.randint(0, 5), dice.randint(0, 5)]
            ones = [random_symmetry(dice, sizes) for _ in range(dice.randint(0, 2))]
            found = orbits(ones, sizes)
            if ones:
                group = self.slow_group(ones)
                for n in range(2):
                    for x in range(sizes[n]):
                        self.assertEqual(set(found.lots(n)[found.lot_of(n, x)]), {rows[n][x] for rows in group})
            else:
                self.assertEqual(found, Parting.single(sizes))
        self.assertEqual(orbits([], []), Parting([]))

    def test_orbits_refused(self):
        one = Symmetry([[1, 0], [0]])
        for wrong in (None, 5, "", {}):
            self.refused(BadSymmetry, {"rank": -1}, orbits, wrong, None)
        for wrong in (None, 5, "21"):
            self.refused(BadSize, {"rank": -1}, orbits, [one], wrong)
        for wrong in (-1, True, None):
            self.refused(BadSize, {"rank": 1}, orbits, [one], [2, wrong])
        self.refused(BadSymmetry, {"rank": 1}, orbits, [one, Symmetry([])], [2, 2])
        self.refused(BadSymmetry, {"rank": 2}, orbits, (one,), (2, 1, 0))
        self.refused(BadSymmetry, {"rank": 0}, orbits, (one, Symmetry([])), (2, 1))

    def test_orbit_sizes(self):
        self.assertEqual(orbit_sizes([[2, 4, 0], (0, 2, 0)]), (1, 3, 0))
        self.assertEqual(orbit_sizes(([],)), ())
        for wrong in (None, 5, "", [], ()):
            self.refused(BadReading, {"rank": -1}, orbit_sizes, wrong)
        for wrong in (None, 5, "ab", [1], [1, 2, 3], [1, -1], [1, True], [1, None]):
            self.refused(BadReading, {"rank": 1}, orbit_sizes, [[1, 2], wrong, None])
            if not isinstance(wrong, list) or len(wrong) == 2:
                self.refused(BadReading, {"rank": 0}, orbit_sizes, [wrong, [1, 2]])
        self.refused(NoneSuch, {"rank": 1}, orbit_sizes, [[2, 1, 1], [0, 2, 2]])


class TurnedTest(Errors, unittest.TestCase):
    def test_against_counts(self):
        dice = random.Random(4)
        for kept in all_kept():
            symmetry = random_symmetry(dice, kept.sizes)
            for n in range(kept.top + 1):
                for word in words_to(4) + ["uuuddd", "uduudd"]:
                    want = sum(told_count(kept, (n, x), word, (n, symmetry.image(n, x))) for x in range(kept.sizes[n]))
                    found = turned_total(kept, symmetry, n, word)
                    self.assertIs(type(found), int)
                    self.assertEqual(found, want if word.count("u") == word.count("d") else 0)

    def test_by_fixed_places(self):
        moved = 0
        for kept, ones in symmetric_kept():
            for one in ones[:6]:
                for n in range(kept.top + 1):
                    for word in closed_words(6):
                        told = turned_total(kept, one, n, word)
                        self.assertEqual(told, turned_by_fixed(kept.numbers, one.fixed_row(), n, word))
                        total = closed_total(kept.numbers, kept.sizes, n, word)
                        if one == Symmetry.still(kept.sizes):
                            self.assertEqual(told, total)
                        elif one.order() in (2, 3, 5, 7):
                            self.assertEqual((told - total) % one.order(), 0)
                            moved += 1
        self.assertGreater(moved, 500)

    def test_sums(self):
        numbers = Numbers([(1, 2), (2, 1), (0, 3)])
        for fixed in ([1, 0, 2, 5], (3, 3, 1)):
            for n in range(3):
                for word in words_to(4):
                    want = sum(
                        (fixed[i] - (fixed[i - 1] if i else 0)) * numbers.val(i, n, word) for i in range(n + 1)
                    )
                    self.assertEqual(
                        turned_by_fixed(numbers, fixed, n, word), want if word.count("u") == word.count("d") else 0
                    )

    def test_goings_on(self):
        # A symmetry goes on in the reflected web: copies go to the copies of what their places go to.
        seen = 0
        for kept, ones in symmetric_kept():
            q, r = kept.pair_at(kept.top)
            under = kept.sizes[-2] if kept.top else 0
            if r < 0 or q * under + r * kept.sizes[-1] > 25 or q > 9 or r > 9:
                continue
            more = reflected(kept, 1)
            for one in ones[:4]:
                row = [c * under + one.image(kept.top - 1, z) for c in range(q) for z in range(under)]
                row += [q * under + c * kept.sizes[-1] + x for c in range(r) for x in one.rows[-1]]
                longer = Symmetry(list(one.rows) + [row])
                self.assertIs(is_symmetry(more.web, longer), True)
                fixed = one.fixed_row()
                self.assertEqual(longer.fixed_row()[-1], q * (fixed[-2] if kept.top else 0) + r * fixed[-1])
                for n in range(kept.top + 1):
                    for word in ("ud", "uudd", "duud", "uuuddd"):
                        self.assertEqual(turned_total(more, longer, n, word), turned_total(kept, one, n, word))
                        seen += 1
        self.assertGreater(seen, 100)

    def test_growth(self):
        seen = 0
        for kept, ones in symmetric_kept():
            for one in ones[:6]:
                for z in range(kept.sizes[0]):
                    if one.image(0, z) != z or any(kept.numbers.gain(0, k) < 1 for k in range(1, kept.top + 1)):
                        continue
                    growth = Growth(kept, (0, z))
                    for n in range(kept.top + 1):
                        if not all(growth.back(place) for place in places_at(kept.web, n)):
                            continue
                        for word in closed_words(4):
                            if stays(kept.web, n, word):
                                told = sum(
                                    value(growth.chance((n, x), word, (n, one.image(n, x))))
                                    for x in range(kept.sizes[n])
                                )
                                whole = kept.numbers.val(0, n, word)
                                self.assertEqual(told, Fraction(turned_total(kept, one, n, word), whole))
                                seen += 1
        self.assertGreater(seen, 200)

    def test_refused(self):
        kept = Kept(Web.subsets(2), Numbers.falling(2))
        turn = Symmetry([[0], [1, 0], [0]])
        self.refused(BadSymmetry, {"rank": 1}, turned_total, kept, Symmetry([[0], [0], [0]]), 9, None)
        self.refused(BadSymmetry, {"rank": 2}, turned_total, kept, Symmetry([[0], [1, 0]]), 9, None)
        self.refused(BadSymmetry, {"rank": 3}, turned_total, kept, Symmetry([[0], [1, 0], [0], []]), 9, None)
        for rank in (-1, 3, True, None):
            self.refused(BadRank, {"rank": rank}, turned_total, kept, turn, rank, None)
        self.refused(BadWord, {"at": -1}, turned_total, kept, turn, 1, None)
        self.refused(BadWord, {"at": 1}, turned_total, kept, turn, 1, "ux")
        for wrong in (None, 5, [], (), "1"):
            self.refused(BadSize, {"rank": -1}, turned_by_fixed, kept.numbers, wrong, 9, None)
        self.refused(BadSize, {"rank": 1}, turned_by_fixed, kept.numbers, [1, -1], 9, None)
        for rank in (-1, 2, True, None):
            self.refused(BadRank, {"rank": rank}, turned_by_fixed, kept.numbers, [1, 1], rank, None)
        self.refused(BadWord, {"at": 0}, turned_by_fixed, kept.numbers, [1, 1], 1, "x")


class LivelyTest(Errors, unittest.TestCase):
    def test_places_moved(self):
        seen = 0
        for kept, ones in symmetric_kept():
            for one in ones[:12]:
                fixed = one.fixed_row()
                for n in range(kept.top + 1):
                    if not kept.numbers.lively_to(n):
                        continue
                    seen += 1
                    for i in range(n + 1):
                        step = fixed[i] - (fixed[i - 1] if i else 0)
                        size = kept.sizes[i] - (kept.sizes[i - 1] if i else 0)
                        self.assertLessEqual(abs(step), size)
                    moved = [kept.sizes[i] - fixed[i] for i in range(n + 1)]
                    self.assertEqual(moved, sorted(moved))
                    self.assertIs(moved[n] == 0, not any(moved))
                    for d in range(1, 5):
                        many = [sum(ring % d == 0 for ring in rings(one.rows[i])) for i in range(n + 1)]
                        self.assertEqual(many, sorted(many))
        self.assertGreater(seen, 60)


if __name__ == "__main__":
    unittest.main()
