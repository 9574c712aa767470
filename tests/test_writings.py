import unittest
from itertools import combinations_with_replacement, product

from upsanddowns.closed import closed_total
from upsanddowns.errors import BadNumber, BadTable, NoneSuch, NotEven, TooMany
from upsanddowns.grids import rank_of
from upsanddowns.kept import Kept
from upsanddowns.levels import pure_row, pures
from upsanddowns.needs import need, next_fits, reflected
from upsanddowns.normal import told_count
from upsanddowns.numbers import Numbers
from upsanddowns.readback import back_row
from upsanddowns.sizes import root_row
from upsanddowns.webs import Web
from upsanddowns.words import rise
from upsanddowns.writings import column_room, fewest_columns, grown_by, most_columns, writing_many, writings

from tests.helpers import Errors, all_kept, all_tuples, closed_words, even_kept, places_of, words_to


def table_by(columns, size):
    return tuple(tuple(sum(one[x] * one[z] for one in columns) for z in range(size)) for x in range(size))


def slow_writings(table):
    """All writings, found by trying all columns that may come in, from the greatest one down."""
    size = len(table)
    if any(table[x][x] < 0 for x in range(size)):
        return []
    ways = [range(int(table[x][x] ** 0.5) + 1) for x in range(size)]
    spare = sorted([one for one in product(*ways) if any(one)], reverse=True)

    def lay(rest, at):
        if not any(any(row) for row in rest):
            return [()]
        found = []
        for number in range(at, len(spare)):
            one = spare[number]
            less = [[rest[x][z] - one[x] * one[z] for z in range(size)] for x in range(size)]
            if all(entry >= 0 for row in less for entry in row):
                found += [(one,) + more for more in lay(less, number)]
        return found

    return sorted(lay([list(row) for row in table], 0))


def square_ways(number):
    """The number of ways to write a number as a sum of squares, order apart."""
    if number < 0:
        return 0
    ways = [1] + [0] * number
    for root in range(1, number + 1):
        for at in range(root * root, number + 1):
            ways[at] += ways[at - root * root]
    return ways[number]


def topped(kept, q, r):
    """The kept web with another pair at its top."""
    return Kept(kept.web, kept.numbers.changed(kept.top, (q, r)))


def with_need(table):
    """An even kept web with this need, of two places at most, from rank 0."""
    size = len(table)
    if size == 1:
        return Kept(Web([], sizes=[1]), Numbers([(1, table[0][0])]))
    a, m = table[0]
    low = Web([[[1, 1]]]) if m else Web([], sizes=[2])
    return topped(Kept(low, Numbers([(1, 2)])), m, a - m)


def small_evens():
    """Even kept webs whose needs are small."""
    found = []
    for kept in even_kept():
        for n in range(kept.top + 1):
            less = kept.cut(n)
            if sum(row[x] for x, row in enumerate(need(less))) <= 14 and kept.sizes[n] <= 5:
                found.append(less)
    found += [topped(Kept(Web.shapes(2), Numbers.steady(1, 1)), q, r) for q, r in ((2, 1), (1, 3), (0, 4), (3, 0), (2, -1))]
    found += [topped(Kept(Web([[[1, 1]]]), Numbers([(1, 2)])), q, r) for q, r in ((1, 0), (2, 2), (3, -1), (3, -3))]
    return found + [with_need([[k]]) for k in range(-1, 14)]


class ListTest(Errors, unittest.TestCase):
    def test_against_all_columns(self):
        many = none = 0
        for kept in small_evens():
            found = list(writings(kept))
            self.assertTrue(all_tuples(tuple(found)))
            self.assertEqual(found, slow_writings(need(kept)))
            self.assertEqual(writing_many(kept), len(found))
            many += len(found)
            none += not found
            for writing in found:
                self.assertEqual(list(writing), sorted(writing, reverse=True))
                self.assertTrue(all(any(column) for column in writing))
                self.assertEqual(table_by(writing, kept.sizes[kept.top]), need(kept))
        self.assertGreater(many, 90)
        self.assertGreater(none, 2)

    def test_edges(self):
        self.assertEqual(list(writings(Kept(Web.subsets(3), Numbers.falling(3)))), [()])
        self.assertEqual(list(writings(Kept(Web([], sizes=[0]), Numbers([])))), [()])
        self.assertEqual(list(writings(Kept(Web([[[]]], sizes=[1, 0]), Numbers([(1, 0)])))), [()])
        self.assertEqual(list(writings(with_need([[-1]]))), [])
        self.assertEqual(list(writings(topped(Kept(Web([[[1, 1]]]), Numbers([(1, 2)])), 3, -3))), [])
        self.assertEqual(list(writings(topped(Kept(Web([[[1, 1]]]), Numbers([(1, 2)])), 3, -1))), [])

    def test_one_writing_at_least(self):
        for kept in even_kept():
            if kept.pair_at(kept.top)[1] >= 0 and kept.sizes[kept.top] <= 8:
                columns = [tuple(row[y] for row in reflected(kept).web.ups[-1]) for y in range(reflected(kept).sizes[-1])]
                told = tuple(sorted([one for one in columns if any(one)], reverse=True))
                self.assertIn(told, list(writings(kept, limit=5000)))

    def test_limits(self):
        kept = with_need([[4]])
        self.assertEqual(len(list(writings(kept, limit=2))), 2)
        told = writings(kept, limit=1)
        self.refused(TooMany, {"limit": 1}, lambda: next(told))
        self.refused(TooMany, {"limit": 1}, writing_many, kept, limit=1)
        self.assertEqual(writing_many(kept, limit=2), 2)
        self.assertEqual(list(writings(with_need([[-1]]), limit=0)), [])
        self.refused(TooMany, {"limit": 0}, writing_many, with_need([[0]]), limit=0)
        # 300 is the limit that is not told.
        most = max(number for number in range(200) if square_ways(number) <= 300)
        self.assertEqual(writing_many(with_need([[most]])), square_ways(most))
        for call in (writing_many, fewest_columns, most_columns, lambda one: list(writings(one))):
            self.refused(TooMany, {"limit": 300}, call, with_need([[most + 1]]))
        self.refused(TooMany, {"limit": 300}, writing_many, with_need([[400]]))

    def test_refused(self):
        last = Kept(Web([[[1]], [[1]]], downs=[[[1]], [[2]]]), Numbers([(1, 1), (1, 1)]))
        for call in (lambda one, **more: list(writings(one, **more)), writing_many):
            for wrong in (-1, True, None, "1"):
                self.refused(BadNumber, {"name": "limit"}, call, last, limit=wrong)
        for call in (lambda one: list(writings(one)), writing_many, fewest_columns, most_columns):
            self.refused(NotEven, {"rank": 1}, call, last)
        told = writings(last, limit=-1)
        self.refused(BadNumber, {"name": "limit"}, lambda: next(told))

    def test_great_needs(self):
        ones = topped(Kept(Web.words(5), Numbers.steady(1, 1)), 0, 3)
        self.assertEqual(writing_many(ones), 1)
        kept = Kept(Web.shapes(7), Numbers.steady(1, 1))
        self.assertEqual(len(kept.sizes), 8)
        found = list(writings(kept))
        self.assertEqual(len(found), len(set(found)))
        for writing in found:
            self.assertEqual(table_by(writing, 15), need(kept))


class GrownTest(Errors, unittest.TestCase):
    def test_writings_laid(self):
        for kept in small_evens():
            size = kept.sizes[kept.top]
            for writing in list(writings(kept))[:6]:
                found = grown_by(kept, [list(column) for column in writing])
                self.assertTrue(found.web.is_even)
                self.assertEqual(found.numbers, kept.numbers)
                self.assertEqual(found.web.cut(kept.top), kept.web)
                self.assertEqual(found.sizes[-1], len(writing))
                rows = tuple(tuple(column[x] for column in writing) for x in range(size))
                self.assertEqual(found.web.ups[-1], rows)
                if writing and size:
                    self.assertTrue(next_fits(kept, rows))
                self.assertTrue(all(not found.web.is_fresh(kept.top + 1, y) for y in range(len(writing))))

    def test_any_order_and_fresh_places(self):
        kept = Kept(Web.shapes(2), Numbers.steady(1, 1))
        found = grown_by(kept, ((0, 1), (0, 0), (1, 1), (1, 0), (0, 0)))
        self.assertEqual(found.web.ups[2], ((0, 0, 1, 1, 0), (1, 0, 1, 0, 0)))
        self.assertEqual(found.web.downs[2], found.web.ups[2])
        self.assertEqual([found.web.is_fresh(3, y) for y in range(5)], [False, True, False, False, True])
        ended = Kept(Web([[[]]], sizes=[1, 0]), Numbers([(1, 0)]))
        self.assertEqual(grown_by(ended, [(), []]).sizes, (1, 0, 2))
        self.assertEqual(grown_by(Kept(Web.subsets(2), Numbers.falling(2)), []).sizes, (1, 2, 1, 0))
        self.assertEqual(grown_by(Kept(Web.subsets(2), Numbers.falling(2)), [[0]]).sizes, (1, 2, 1, 1))

    def test_unlike_webs(self):
        kept = Kept(Web([[[1]]], downs=[[[4]]]), Numbers([(1, 4), (1, 1)]))
        self.assertEqual(need(kept), ((5,),))
        found = grown_by(kept, [[1], [2]])
        self.assertEqual((found.web.ups[1], found.web.downs[1]), (((1, 2),), ((1, 2),)))
        self.refused(NoneSuch, {"rank": 1}, grown_by, kept, [[1], [1]])

    def test_refused(self):
        kept = Kept(Web.shapes(2), Numbers.steady(1, 1))
        for writing in (None, 5, "", {}, [5], [None], [(1,)], [(1, 1, 1)], [(1, -1)], [(1, True)], [(1, 1), (1, "0")],
                        [(1, 1), (1, 0), (0, 1), ()]):
            self.refused(BadTable, {"rank": 2, "side": "ups"}, grown_by, kept, writing)
        for writing in ([], [(1, 1)], [(1, 1), (1, 0), (1, 0)], [(1, 1), (1, 0), (0, 1), (1, 0)], [(2, 1)]):
            self.refused(NoneSuch, {"rank": 2}, grown_by, kept, writing)
        self.refused(NoneSuch, {"rank": 0}, grown_by, with_need([[-1]]), [])


class ColumnsTest(Errors, unittest.TestCase):
    def test_numbers_of_columns(self):
        for kept in small_evens():
            table = need(kept)
            found = [len(writing) for writing in writings(kept)]
            self.assertEqual(fewest_columns(kept), min(found, default=None))
            self.assertEqual(most_columns(kept), max(found, default=None))
            room = column_room(kept)
            self.assertEqual(room, sum(row[x] for x, row in enumerate(table)))
            self.assertEqual(room, sum(root * step for root, step in root_row(kept, kept.top)))
            for writing in writings(kept):
                less = sum(sum(entry ** 2 for entry in column) - 1 for column in writing)
                self.assertEqual(len(writing), room - less)
            least = sum(step for root, step in root_row(kept, kept.top) if root != 0)
            self.assertEqual(least, rank_of(table))
            self.assertTrue(all(many >= least for many in found))
            if kept.numbers.lively_to(kept.top + 1):
                self.assertEqual(least, kept.sizes[kept.top])
            spread = any(entry != 0 for x, row in enumerate(table) for z, entry in enumerate(row) if x != z)
            below = any(entry < 0 for row in table for entry in row)
            self.assertIs(room in found, not spread and not below)

    def test_rooms_of_any_webs(self):
        for kept in all_kept():
            table = need(kept)
            self.assertEqual(column_room(kept), sum(row[x] for x, row in enumerate(table)))
        self.assertEqual(column_room(Kept(Web([], sizes=[0]), Numbers([]))), 0)
        self.assertEqual(column_room(with_need([[-3]])), -3)

    def test_needs_off_the_diagonal(self):
        for number in range(-1, 30):
            self.assertEqual(writing_many(with_need([[number]])), square_ways(number))
            if number < 9:
                told = square_ways(number) ** 2
                self.assertEqual(writing_many(with_need([[number, 0], [0, number]])), told)
                self.assertIs(told == 1, 0 <= number <= 3)

    def test_needs_of_two_places(self):
        for m in range(1, 5):
            for a in range(9):
                divisors = [(s, m_part // s) for m_part in range(1, m + 1) for s in range(1, m_part + 1) if m_part % s == 0]
                want = 0
                for many in range(1, m + 1):
                    for chosen in combinations_with_replacement(sorted(set(divisors)), many):
                        if sum(s * t for s, t in chosen) == m:
                            want += square_ways(a - sum(s * s for s, _ in chosen)) * square_ways(
                                a - sum(t * t for _, t in chosen))
                self.assertEqual(writing_many(with_need([[a, m], [m, a]])), want)


class GoingsOnTest(Errors, unittest.TestCase):
    def test_unlike_writings_agree(self):
        seen = 0
        for kept in small_evens():
            told = list(writings(kept))[:3]
            grown = [grown_by(kept, writing) for writing in told]
            for one, two in zip(grown, grown[1:]):
                self.assertNotEqual(one, two)
                self.assertEqual(one.sizes[:-1], two.sizes[:-1])
                for n in range(kept.top + 1):
                    for word in closed_words(4):
                        self.assertEqual(
                            closed_total(one.numbers, one.sizes, n, word), closed_total(two.numbers, two.sizes, n, word)
                        )
                if kept.numbers.lively_to(kept.top + 2):
                    self.assertEqual(back_row(one.numbers, kept.top, 2), back_row(two.numbers, kept.top, 2))
                    self.assertEqual(pure_row(one.numbers, kept.top), pure_row(two.numbers, kept.top))
                for place in places_of(kept.web):
                    for word in words_to(4) + ["uuuddd", "uduudd"]:
                        last = place[0] + rise(word)
                        if 0 <= last <= kept.top:
                            for y in range(kept.sizes[last]):
                                seen += 1
                                self.assertEqual(
                                    told_count(one, place, word, (last, y)), told_count(two, place, word, (last, y))
                                )
            counts = [sorted((column, writing.count(column)) for column in set(writing)) for writing in told]
            self.assertTrue(all(one != two for at, one in enumerate(counts) for two in counts[:at]))
        self.assertGreater(seen, 2000)

    def test_pures_of_the_next_rank(self):
        for kept in small_evens():
            for writing in list(writings(kept))[:4]:
                for fresh in (0, 2):
                    found = grown_by(kept, writing + ((0,) * kept.sizes[kept.top],) * fresh)
                    self.assertEqual(found.sizes[-1], len(writing) + fresh)
                    told = pures(found.web, kept.top + 1)
                    self.assertEqual(told, len(writing) + fresh - rank_of(need(kept)))
                    if kept.numbers.lively_to(kept.top + 1):
                        self.assertEqual(told, found.sizes[-1] - kept.sizes[kept.top])

    def test_equal_numbers_of_places(self):
        # Two writings of one need with as many columns.
        kept = with_need([[28]])
        lengths = [len(writing) for writing in writings(kept, limit=1000)]
        self.assertLess(len(set(lengths)), len(lengths))


if __name__ == "__main__":
    unittest.main()
