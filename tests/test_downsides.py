import random
import unittest
from itertools import product
from math import prod

from upsanddowns.downsides import downs_many, downs_of, grown_with
from upsanddowns.errors import BadNumber, BadPlace, BadTable, NoneSuch, TooMany
from upsanddowns.kept import Kept
from upsanddowns.needs import need, next_fits
from upsanddowns.normal import told_count
from upsanddowns.numbers import Numbers
from upsanddowns.walks import counts
from upsanddowns.webs import Web
from upsanddowns.words import climb, rise

from tests.helpers import Errors, all_kept, all_tuples, places_of, words_to


def slow_rows(kept, ups, place):
    """All rows, found by trying all entries that no need excludes."""
    table = need(kept)
    target = [row[place] for row in table]
    if min(target) < 0:
        return []
    most = [
        min(entry // row[y] for entry, row in zip(target, ups) if row[y] > 0) for y in range(len(ups[0]))
    ]
    return sorted(
        b for b in product(*[range(one + 1) for one in most])
        if all(sum(u * e for u, e in zip(row, b)) == want for row, want in zip(ups, target))
    )


def told_ups():
    """Kept webs with tables of up strands that may be told behind them."""
    found = []
    for kept in all_kept():
        for n in range(kept.top):
            columns = list(zip(*kept.web.ups[n]))
            if kept.sizes[n] > 0 and all(any(column) for column in columns):
                found.append((kept.cut(n), kept.web.ups[n]))
    dice = random.Random(2)
    bases = [kept.cut(n) for kept in all_kept() for n in range(kept.top + 1) if 0 < kept.sizes[n] <= 3]
    for _ in range(200):
        kept = dice.choice(bases)
        size = kept.sizes[kept.top]
        columns = [[dice.choice([0, 1, 1, 2, 3]) for _ in range(size)] for _ in range(dice.randint(0, 4))]
        columns = [column for column in columns if any(column)]
        found.append((kept, [[column[x] for column in columns] for x in range(size)]))
    return [(kept, ups) for kept, ups in found if max(map(max, need(kept))) <= 12 and len(ups[0]) <= 6]


class RowsTest(Errors, unittest.TestCase):
    def test_against_all_entries(self):
        seen = none = 0
        for kept, ups in told_ups():
            many = []
            for place in range(kept.sizes[kept.top]):
                found = list(downs_of(kept, ups, place))
                self.assertTrue(all_tuples(tuple(found)))
                self.assertEqual(found, slow_rows(kept, ups, place))
                many.append(len(found))
                seen += len(found)
                none += not found
            self.assertEqual(downs_many(kept, [list(row) for row in ups]), tuple(many))
        self.assertGreater(seen, 300)
        self.assertGreater(none, 50)

    def test_goings_on(self):
        seen = 0
        for kept, ups in told_ups():
            size = kept.sizes[kept.top]
            rows = [list(downs_of(kept, ups, place)) for place in range(size)]
            if prod(len(row) for row in rows) > 60:
                continue
            for chosen in product(*rows):
                found = grown_with(kept, ups, [list(row) for row in chosen])
                self.assertEqual(found.web.ups[-1], tuple(tuple(row) for row in ups))
                self.assertEqual(found.web.downs[-1], chosen)
                self.assertEqual((found.numbers, found.web.cut(kept.top)), (kept.numbers, kept.web))
                seen += 1
        self.assertGreater(seen, 100)

    def test_as_many_as_the_product(self):
        kept = Kept(Web.shapes(2), Numbers.steady(1, 1))
        ups = [[1, 1, 0], [1, 0, 1]]
        fits = [
            (one, two) for one in product(range(4), repeat=3) for two in product(range(4), repeat=3)
            if next_fits(kept, ups, [one, two])
        ]
        self.assertEqual(downs_many(kept, ups), (2, 2))
        self.assertEqual(len(fits), 4)
        self.assertEqual(sorted(fits), [
            (one, two) for one in downs_of(kept, ups, 0) for two in downs_of(kept, ups, 1)
        ])

    def test_what_goings_on_agree_in(self):
        kept = Kept(Web.shapes(2), Numbers.steady(1, 1))
        ups = [[1, 1, 0], [1, 0, 1]]
        grown = [
            grown_with(kept, ups, (one, two)) for one in downs_of(kept, ups, 0) for two in downs_of(kept, ups, 1)
        ]
        for found in grown:
            for place in places_of(kept.web):
                for word in words_to(6):
                    last = place[0] + rise(word)
                    if 0 <= last <= 2:
                        for y in range(kept.sizes[last]):
                            told = told_count(kept, place, word, (last, y))
                            self.assertEqual(told_count(found, place, word, (last, y)), told)
                            if climb(word, place[0]) <= 3:
                                self.assertEqual(counts(found.web, place, word)[y], told)

    def test_no_next_place(self):
        ended = Kept(Web.subsets(2), Numbers.falling(2))
        self.assertEqual(list(downs_of(ended, [[]], 0)), [()])
        self.assertEqual(downs_many(ended, [()]), (1,))
        self.assertEqual(grown_with(ended, [[]], [[]]).sizes, (1, 2, 1, 0))
        kept = Kept(Web.shapes(2), Numbers.steady(1, 1))
        self.assertEqual(downs_many(kept, [[], []]), (0, 0))
        self.assertEqual(list(downs_of(kept, ((), ()), 1)), [])
        self.refused(NoneSuch, {"rank": 0}, grown_with, kept, [[], []], [[], []])

    def test_needs_below_nought(self):
        kept = Kept(Web([[[1, 1]]]), Numbers([(1, 2), (1, -2)]))
        self.assertEqual(need(kept), ((-1, 1), (1, -1)))
        self.assertEqual(downs_many(kept, [[1, 0], [0, 1]]), (0, 0))
        alone = Kept(Web([], sizes=[1]), Numbers([(1, -1)]))
        self.assertEqual(list(downs_of(alone, [[]], 0)), [])

    def test_down_strands_alone_are_missing(self):
        # A next place may be without down strands, not without up strands.
        kept = Kept(Web([], sizes=[1]), Numbers([(1, 2)]))
        found = grown_with(kept, [[1, 2]], [[2, 0]])
        self.assertEqual((found.web.ups, found.web.downs), ((((1, 2),),), (((2, 0),),)))

    def test_limits(self):
        kept = Kept(Web([], sizes=[1]), Numbers([(1, 4)]))
        self.assertEqual(len(list(downs_of(kept, [[1, 3]], 0, limit=2))), 2)
        told = downs_of(kept, [[1, 3]], 0, limit=1)
        self.refused(TooMany, {"limit": 1}, lambda: next(told))
        self.assertEqual(list(downs_of(kept, [[3]], 0, limit=0)), [])
        self.assertEqual(list(downs_of(kept, [[4]], 0, limit=1)), [(1,)])
        # 300 is the limit that is not told.
        for many, good in ((299, True), (300, False)):
            great = Kept(Web([], sizes=[2]), Numbers([(1, many)]))
            ups = [[1, 1, 0], [0, 0, 1]]
            if good:
                self.assertEqual(downs_many(great, ups), (300, 1))
                self.assertEqual(len(list(downs_of(great, ups, 0))), 300)
                self.assertEqual(list(downs_of(great, ups, 0))[:2], [(0, 299, 0), (1, 298, 0)])
            else:
                self.refused(TooMany, {"limit": 300}, downs_many, great, ups)
                self.refused(TooMany, {"limit": 300}, lambda: list(downs_of(great, ups, 0)))
                self.assertEqual(list(downs_of(great, ups, 1)), [(0, 0, 300)])
        wide = Kept(Web([], sizes=[1]), Numbers([(1, 400)]))
        self.refused(TooMany, {"limit": 300}, downs_many, wide, [[1] * 40])

    def test_great_needs(self):
        kept = Kept(Web.shapes(6), Numbers.steady(1, 1))
        self.assertEqual(downs_many(kept, Web.shapes(7).ups[6]), (1,) * 11)
        many = 10 ** 12
        great = Kept(Web([], sizes=[1]), Numbers([(1, many)]))
        self.assertEqual(list(downs_of(great, [[many]], 0)), [(1,)])
        self.assertEqual(list(downs_of(great, [[1]], 0)), [(many,)])

    def test_refused(self):
        kept = Kept(Web.shapes(2), Numbers.steady(1, 1))
        good = [[1, 1, 0], [1, 0, 1]]
        for ups in (None, 5, "", [], [[1, 1]], [[1], [1], [1]], [[1, 1], [1]], [[1, -1], [0, 1]], [[True], [1]],
                    [[1, 0], [1, 0]], [[0], [0]], [5, 5], [[1], None], [None, [1]], {}):
            told = {"rank": 2, "side": "ups"}
            self.refused(BadTable, told, lambda: list(downs_of(kept, ups, 9, limit=-1)))
            self.refused(BadTable, told, downs_many, kept, ups)
            self.refused(BadTable, told, grown_with, kept, ups, 5)
        for ended in (Kept(Web([[[]]], sizes=[1, 0]), Numbers([(1, 0)])), Kept(Web([[]], sizes=[0, 0]), Numbers([]))):
            told = {"rank": 1, "side": "ups"}
            self.refused(BadTable, told, lambda: list(downs_of(ended, [], 0)))
            self.refused(BadTable, told, downs_many, ended, [])
            self.refused(BadTable, told, grown_with, ended, [], [])
        for place in (-1, 2, True, None, "0"):
            self.refused(BadPlace, {"rank": 2, "place": place}, lambda: list(downs_of(kept, good, place, limit=-1)))
        for wrong in (-1, True, None):
            self.refused(BadNumber, {"name": "limit"}, lambda: list(downs_of(kept, good, 0, limit=wrong)))
        for rows in (None, 5, [], [[1, 1, 0]], [[1, 1], [1, 0]], [[1, 1, 0], [1, 0, -1]], [[1, 1, 0], [1, 0, True]],
                     [[1, 1, 0], [1, 0]], [[1, 1, 0], 5]):
            self.refused(BadTable, {"rank": 2, "side": "downs"}, grown_with, kept, good, rows)
        self.refused(NoneSuch, {"rank": 0}, grown_with, kept, good, [[1, 0, 0], [0, 0, 0]])
        self.refused(NoneSuch, {"rank": 1}, grown_with, kept, good, [[1, 1, 0], [0, 0, 0]])
        self.refused(NoneSuch, {"rank": 1}, grown_with, kept, good, [[0, 2, 1], [1, 0, 2]])
        self.assertEqual(grown_with(kept, good, [[0, 2, 1], [1, 0, 1]]).sizes, (1, 1, 2, 3))

    def test_changed_behind_the_call(self):
        kept = Kept(Web.shapes(2), Numbers.steady(1, 1))
        ups, rows = [[1, 1, 0], [1, 0, 1]], [[0, 2, 1], [1, 0, 1]]
        found = grown_with(kept, ups, rows)
        told = downs_of(kept, ups, 0)
        first = next(told)
        ups[0][0] = 9
        rows[0][0] = 9
        self.assertEqual(found.web.ups[2], ((1, 1, 0), (1, 0, 1)))
        self.assertEqual(found.web.downs[2], ((0, 2, 1), (1, 0, 1)))
        self.assertEqual([first] + list(told), [(0, 2, 1), (1, 1, 0)])


if __name__ == "__main__":
    unittest.main()
