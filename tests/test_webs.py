import unittest
from unittest import mock

from upsanddowns.errors import BadNumber, BadPlace, BadRank, BadSize, BadTable
from upsanddowns.joins import beside, exchanged, product, raised_by
from upsanddowns.webs import Web

from tests.helpers import Errors, all_tuples, any_webs, random_web


class MakingTest(Errors, unittest.TestCase):
    def test_even(self):
        web = Web([[[1, 2]], [[1], [0]]])
        self.assertEqual(web.sizes, (1, 2, 1))
        self.assertEqual(web.ups, (((1, 2),), ((1,), (0,))))
        self.assertEqual(web.downs, web.ups)

    def test_unlike(self):
        web = Web(([(1, 2)],), downs=([(0, 3)],))
        self.assertEqual((web.sizes, web.ups, web.downs), ((1, 2), (((1, 2),),), (((0, 3),),)))

    def test_without_places_and_single_ranks(self):
        self.assertEqual(Web([], sizes=[0]).sizes, (0,))
        self.assertEqual(Web((), sizes=(4,), downs=()).sizes, (4,))
        self.assertEqual(Web([[], []], sizes=[0, 0, 2]).ups, ((), ()))
        self.assertEqual(Web([[[], []]]).sizes, (2, 0))
        self.assertEqual(Web([[], [[1]]]).sizes, (0, 1, 1))

    def test_lists_and_tuples_alike(self):
        one = Web([[[1, 2]], [[1], [0]]], downs=[[[1, 2]], [[1], [5]]], sizes=[1, 2, 1])
        two = Web((((1, 2),), ((1,), (0,))), downs=(((1, 2),), ((1,), (5,))), sizes=(1, 2, 1))
        self.assertEqual(one, two)
        for web in (one, two):
            self.assertTrue(all_tuples((web.sizes, web.ups, web.downs)))

    def test_nothing_is_kept_or_changed(self):
        ups, downs, sizes = [[[1, 2]]], [[[3, 4]]], [1, 2]
        web = Web(ups, downs=downs, sizes=sizes)
        self.assertEqual((ups, downs, sizes), ([[[1, 2]]], [[[3, 4]]], [1, 2]))
        ups[0][0][0] = 9
        downs[0][0] = [7, 7]
        sizes[0] = 5
        self.assertEqual(web, Web([[[1, 2]]], downs=[[[3, 4]]]))

    def test_keywords_only(self):
        with self.assertRaises(TypeError):
            Web([[[1]]], [[[1]]])

    def bad_table(self, rank, side, ups, **more):
        self.refused(BadTable, {"rank": rank, "side": side}, Web, ups, **more)

    def bad_size(self, rank, ups, **more):
        self.refused(BadSize, {"rank": rank}, Web, ups, **more)

    def test_rows_of_tables(self):
        for ups in (None, 5, "ab", {}, {1: 2}, iter([])):
            self.bad_table(-1, "ups", ups, downs=3, sizes=3)
        for downs in (5, "a", {}, [], [[[1]], [[1]]]):
            self.bad_table(-1, "downs", [[[1]]], downs=downs, sizes=7)

    def test_sizes(self):
        for sizes in (5, "ab", {}, [1], [1, 1, 1], (1,)):
            self.bad_size(-1, [[[1]]], sizes=sizes)
        self.bad_size(0, [[["x"]]], sizes=[-1, "a"])
        self.bad_size(1, [5], sizes=[1, True])
        self.bad_size(1, [5], downs=[7], sizes=[1, None])

    def test_sizes_not_told(self):
        self.bad_size(0, [])
        self.bad_size(0, [], downs=[])
        self.bad_size(1, [[]])
        self.bad_size(2, [[[1]], []])
        self.bad_table(0, "ups", [5])
        self.bad_table(1, "ups", [[5], 5, []])
        self.bad_table(0, "ups", [5, []])
        self.bad_size(2, [[5], []])
        self.bad_table(1, "ups", [[5], [5]])
        self.bad_table(0, "ups", [[5], [[1]]])
        self.bad_table(1, "ups", [[5], [5, [1]]])
        self.bad_table(0, "ups", [[5], [[1], 5]])

    def test_tables(self):
        for table in (5, [[1], [1]], [], [[1, 1]], [[]], [5], [[-1]], [[True]], [["1"]], [[1.0]], [None]):
            self.bad_table(0, "ups", [table], sizes=[1, 1])
            self.bad_table(0, "downs", [[[1]]], downs=[table])
        self.bad_table(1, "ups", [[[1]], [[1], [1]]], downs=[5, 5], sizes=[1, 1, 1])
        self.bad_table(0, "ups", [[[1, 1]], [[1]]])
        self.bad_table(1, "ups", [[[1]], [[-1]]], downs=[[[-1]], [[1]]])
        self.bad_table(0, "downs", [[[1]], [[1]]], downs=[None, [[-1]]])
        self.bad_table(1, "downs", [[[1]], [[1]]], downs=[[[1]], [[-1]]])


class AskingTest(Errors, unittest.TestCase):
    web = Web([[[1, 2]], [[1], [0]]])

    def test_properties(self):
        self.assertEqual((self.web.top, self.web.is_even, self.web.is_simple), (2, True, False))
        self.assertIs(Web([[[1, 0]]]).is_simple, True)
        unlike = Web([[[1]]], downs=[[[0]]])
        self.assertEqual((unlike.is_even, unlike.is_simple), (False, False))
        self.assertIs(Web([[[1]]], downs=[[[1]]]).is_even, True)
        single = Web([], sizes=[3])
        self.assertEqual((single.top, single.is_even, single.is_simple), (0, True, True))

    def test_indexes(self):
        self.assertEqual([self.web[0], self.web[1], self.web[2]], [1, 2, 1])
        for rank in (-1, 3, True, None, "0", 1.0):
            self.refused(BadRank, {"rank": rank}, self.web.__getitem__, rank)

    def test_length_and_iteration(self):
        self.assertEqual(len(self.web), 3)
        self.assertEqual(list(self.web), [1, 2, 1])
        self.assertEqual(len(Web([], sizes=[0])), 1)

    def test_equality(self):
        other = Web([[[1, 2]], [[1], [0]]], downs=[[[1, 2]], [[1], [0]]])
        self.assertTrue(self.web == other)
        self.assertFalse(self.web != other)
        self.assertFalse(self.web == Web([[[1, 2]], [[1], [1]]]))
        self.assertFalse(self.web == Web([[[1, 2]], [[1], [0]]], downs=[[[1, 2]], [[1], [1]]]))
        self.assertFalse(Web([[[1]]], downs=[[[2]]]) == Web([[[3]]], downs=[[[2]]]))
        self.assertFalse(Web([[], []], sizes=[0, 0, 1]) == Web([[], []], sizes=[0, 0, 2]))
        for other in (None, 1, (1, 2, 1), "web", [1, 2, 1], mock.ANY):
            self.assertIs(self.web.__eq__(other), False)
        self.assertTrue(self.web != (1, 2, 1))

    def test_rows(self):
        web = Web([[[1, 2]], [[1], [0]]], downs=[[[3, 4]], [[5], [6]]])
        self.assertEqual([web.up_row(0, 0), web.up_row(1, 1), web.up_row(2, 0)], [(1, 2), (0,), ()])
        self.assertEqual([web.down_row(0, 0), web.down_row(1, 1), web.down_row(2, 0)], [(), (4,), (5, 6)])
        self.assertEqual(Web([[[]]], sizes=[1, 0]).up_row(0, 0), ())

    def test_fresh(self):
        web = Web([[[1, 0, 0, 0]]], downs=[[[0, 1, 0, 1]]])
        self.assertEqual([web.is_fresh(1, y) for y in range(4)], [False, False, True, False])
        self.assertIs(web.is_fresh(0, 0), True)
        self.assertIs(Web([[], [[0]]]).is_fresh(1, 0), True)

    def test_rank_and_place_refused(self):
        for call in (self.web.up_row, self.web.down_row, self.web.is_fresh):
            for rank in (-1, 3, True, None, "1"):
                self.refused(BadRank, {"rank": rank}, call, rank, -1)
            for place in (-1, 2, True, None, "1"):
                self.refused(BadPlace, {"rank": 1, "place": place}, call, 1, place)
            self.refused(BadPlace, {"rank": 0, "place": 1}, call, 0, 1)

    def test_cut(self):
        web = random_web(3, [2, 3, 0, 2])
        self.assertEqual(web.cut(3), web)
        self.assertEqual(web.cut(1), Web(web.ups[:1], downs=web.downs[:1]))
        self.assertEqual(web.cut(0), Web([], sizes=[2]))
        self.assertEqual(web.cut(2).sizes, (2, 3, 0))
        for rank in (-1, 4, True, None):
            self.refused(BadRank, {"rank": rank}, web.cut, rank)

    def test_grown(self):
        web = Web([[[1, 2]]], downs=[[[0, 1]]])
        more = web.grown([[1, 0, 2], (0, 0, 1)])
        self.assertEqual(more.sizes, (1, 2, 3))
        self.assertEqual(more.ups[1], ((1, 0, 2), (0, 0, 1)))
        self.assertEqual(more.downs, (((0, 1),), ((1, 0, 2), (0, 0, 1))))
        unlike = web.grown(([1], [2]), [(3,), [4]])
        self.assertEqual((unlike.ups[1], unlike.downs[1]), (((1,), (2,)), ((3,), (4,))))
        self.assertEqual(web.grown([[], []]).sizes, (1, 2, 0))
        self.assertEqual(more.cut(1), web)
        self.assertEqual(web.grown(ups=[[1], [1]], downs=[[1], [0]]).is_even, False)

    def test_grown_refused(self):
        web = Web([[[1, 2]]])
        for ups in (None, 5, [], [[1]], [[1], [1], [1]], [[1], [1, 1]], [[1], 5], [5, [1]], [[1], [-1]],
                    [[True], [1]], "ab", {0: [1], 1: [1]}):
            self.refused(BadTable, {"rank": 1, "side": "ups"}, web.grown, ups, 5)
        for downs in (5, [], [[1]], [[1, 1], [1, 1]], [[1], [-1]], [[1], 5], [[], []]):
            self.refused(BadTable, {"rank": 1, "side": "downs"}, web.grown, [[1], [1]], downs)
        for ups in ([], [[]], [[1]], None):
            self.refused(BadTable, {"rank": 0, "side": "ups"}, Web([], sizes=[0]).grown, ups)

    def test_empty_rank(self):
        for web in any_webs():
            more = web.empty_rank()
            self.assertEqual(more.sizes, web.sizes + (0,))
            self.assertEqual(more.cut(web.top), web)
            self.assertEqual(more.ups[-1], ((),) * web.sizes[-1])


class SignsTest(Errors, unittest.TestCase):
    def test_signs_are_the_calls(self):
        for one in any_webs():
            self.assertEqual(~one, exchanged(one))
            self.assertEqual(one >> 2, raised_by(one, 2))
            for other in any_webs():
                self.assertEqual(one + other, beside(one, other))
                self.assertEqual(one * other, product(one, other))

    def test_refused(self):
        web = Web([[[1]]])
        for many in (-1, True, None, "1", web):
            self.refused(BadNumber, {"name": "many"}, lambda: web >> many)
        with self.assertRaises(TypeError):
            web + 1
        with self.assertRaises(TypeError):
            web * 2


if __name__ == "__main__":
    unittest.main()
