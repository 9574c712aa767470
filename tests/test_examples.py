"""The examples of the interface give the answers that stand there."""

import unittest

from upsanddowns.alike import apart_start
from upsanddowns.closed import sizes_beneath
from upsanddowns.corners import grid
from upsanddowns.downsides import downs_of
from upsanddowns.ends import layer_bound, turning_rank
from upsanddowns.errors import NotKept
from upsanddowns.fillings import fillings_of
from upsanddowns.gates import gate, is_gate, reached, ways_apart
from upsanddowns.growth import Growth
from upsanddowns.judging import above, below, judge
from upsanddowns.kept import Kept
from upsanddowns.levels import parts, pure_row
from upsanddowns.living import forbidden, late_sum, pures_by_sizes
from upsanddowns.lotsapart import is_layered
from upsanddowns.mixtures import coin
from upsanddowns.needs import need, reflected_to
from upsanddowns.normal import normal_row, told_count
from upsanddowns.numbers import Numbers
from upsanddowns.readback import back_row
from upsanddowns.rules import Rule
from upsanddowns.shares import Share, total_of
from upsanddowns.sizes import determinant_by_sizes
from upsanddowns.strands import single_ways
from upsanddowns.systems import odd_systems, signed_sum, square_sum, systems_of
from upsanddowns.texts import web_text
from upsanddowns.twosteps import mirror_row
from upsanddowns.unseen import OneTable
from upsanddowns.walks import walks_of
from upsanddowns.webs import Web
from upsanddowns.weights import weights
from upsanddowns.writings import writings


class ExamplesTest(unittest.TestCase):
    def test_web(self):
        web = Web([[[1, 2]], [[1], [0]]])
        self.assertEqual(
            [web.sizes, web.top, web.is_even, web.is_simple, web.up_row(0, 0), web.down_row(2, 0), web.is_fresh(1, 1)],
            [(1, 2, 1), 2, True, False, (1, 2), (1, 0), False],
        )

    def test_text(self):
        self.assertEqual(web_text(Web([[[1]]], downs=[[[0]]])), "unlike\nrank 0 size 1\nrank 1 size 1\nup 0 0 1")

    def test_walks(self):
        self.assertEqual(
            list(walks_of(Web.shapes(3), (1, 0), "ud")),
            [(("u", 0, 0), ("d", 0, 0)), (("u", 0, 1), ("d", 0, 0))],
        )

    def test_weights(self):
        self.assertEqual(weights(Web([[[2, 1]]], downs=[[[1, 1]]])), ((2,), (1, 2)))

    def test_numbers(self):
        falling = Numbers.falling(3)
        self.assertEqual(
            [falling.gain(0, 1), falling.gain(0, 2), falling.gain(0, 3), falling.gain(0, 4),
             falling.val(0, 1, "ud"), falling.dead_pair(3), falling.dead_pair(4)],
            [3, 4, 3, 0, 4, (1, 2), (1, 2)],
        )

    def test_judging(self):
        web = Web.shapes(3)
        self.assertEqual(
            [below(web, 2), above(web, 2), judge(web, 2).word, judge(web, 2).pair, judge(web, 0).line],
            [((1, 1), (1, 1)), ((2, 1), (1, 2)), "one", (1, 1), (0, 1)],
        )

    def test_kept(self):
        with self.assertRaises(NotKept) as caught:
            Kept(Web([[[1], [2]]]), Numbers.steady(1, 1))
        self.assertEqual((caught.exception.rank, caught.exception.first, caught.exception.second), (0, 0, 1))

    def test_words(self):
        one = Numbers.steady(1, 1)
        kept = Kept(Web.shapes(2), one)
        self.assertEqual(
            [normal_row(one, "uudd", 2), normal_row(one, "uudd", 1), told_count(kept, (2, 0), "uudd", (2, 1))],
            [(1, 4, 2), (0, 4, 2), 5],
        )

    def test_one_table(self):
        table = OneTable(Numbers.steady(1, 1), 2, [[2, 1], [1, 2]])
        self.assertEqual(
            [table.table_below, table.down_up(2), table.up_down(2), table.count(0, "uudd", 1)],
            [((1, 1), (1, 1)), ((1, 1), (1, 1)), ((7, 5), (5, 7)), 5],
        )

    def test_mirror_and_late_chain(self):
        one = Numbers.steady(1, 1)
        self.assertEqual(
            [mirror_row(Numbers.steady(2, 3), 1, 1), apart_start(one, "udud", "uudd", 1), single_ways(one, one, 0, 4)],
            [((-3, 1), 2), 1, 10],
        )

    def test_levels(self):
        kept = Kept(Web.subsets(3), Numbers.falling(3))
        self.assertEqual(
            [determinant_by_sizes(kept, 1, 1), pure_row(kept.numbers, 1), parts(kept, 1, (1, 0, 0))],
            [20, ((3, -1), 3), (((1, 1, 1), 3), ((2, -1, -1), 3))],
        )

    def test_reading_back(self):
        falling = Numbers.falling(3)
        self.assertEqual(
            [back_row(falling, 1, 1), sizes_beneath(falling, 1, [[2, 1, 1], [1, 2, 1], [1, 1, 2]])],
            [((4, -1), 4), (1, 3)],
        )

    def test_living(self):
        falling = Numbers.falling(2)
        self.assertEqual(
            [pures_by_sizes(falling, (1, 2, 1)), late_sum(falling, (1, 2, 1)).downs, forbidden(falling, (1, 1, 2, 2))],
            [(1, 1, 0), (((2, 0),), ((2,), (0,))), 2],
        )

    def test_rules(self):
        kept = Kept(Web.shapes(2), Numbers.steady(1, 1))
        self.assertEqual(Rule(kept).match(1, 0, 0), (((0, 0, 0), (0, 0, 0, 0)), ((1, 0, 0), (0,))))

    def test_fillings(self):
        found = list(fillings_of(Numbers.steady(1, 1), "uudd", 0))
        self.assertEqual(
            (found[0].entries, found[1].entries, len(found)),
            (((0, 2, "mark", 0), (1, 2, "swap", 0), (1, 3, "mark", 0)), ((0, 3, "mark", 0), (1, 2, "mark", 0)), 2),
        )

    def test_corners(self):
        kept = Kept(Web.shapes(2), Numbers.steady(1, 1))
        walk = [("u", 0, 0), ("u", 0, 0), ("d", 0, 0), ("d", 0, 0)]
        self.assertEqual(
            grid(Rule(kept), (0, 0), walk, 2),
            (((0, 0), (0, 0), (0, 0)), ((1, 0), (0, 0), (0, 0)), ((2, 0), (1, 0), (0, 0))),
        )

    def test_needs(self):
        kept = Kept(Web.shapes(2), Numbers.steady(1, 1))
        self.assertEqual((need(kept), reflected_to(kept, 5).web.sizes), (((2, 1), (1, 2)), (1, 1, 2, 3, 5, 8)))

    def test_writings(self):
        kept = Kept(Web([], sizes=[1]), Numbers([(1, 4)]))
        self.assertEqual(list(writings(kept)), [((1,), (1,), (1,), (1,)), ((2,),)])

    def test_downsides(self):
        kept = Kept(Web([], sizes=[1]), Numbers([(1, 4)]))
        self.assertEqual(list(downs_of(kept, [[1, 3]], 0)), [(1, 1), (4, 0)])

    def test_systems(self):
        kept = Kept(Web.subsets(3), Numbers.falling(3))
        found = list(systems_of(kept.web, 1, (0, 1, 2), 1))
        self.assertEqual(
            [found, signed_sum(kept.web, 1, (0, 1, 2), 1, [2, 1, 0]), square_sum(kept, 1, [0, 1, 2], 1),
             odd_systems(kept, 1, 1)],
            [[(((0, 0),), ((0, 2),), ((0, 1),)), (((0, 1),), ((0, 0),), ((0, 2),))], -2, 4, False],
        )

    def test_gates(self):
        web = Web([[[1], [1]], [[1, 1]]])
        self.assertEqual(
            [len(ways_apart(web, 0, (0, 1), 2)), gate(web, 0, (0, 1), 2), reached(web, 0, [1], 2),
             is_gate(web, 0, [0, 1], 2, [(2, 0)])],
            [1, ((1, 0),), (0, 1), False],
        )

    def test_ends(self):
        web = Web([[[1, 0]], [[0], [1]]], downs=[[[0, 0]], [[0], [0]]])
        self.assertEqual(
            [layer_bound(web, 1), layer_bound(web, 2), turning_rank(web, 2),
             is_layered(web, [(0, 0), (1, 0), (1, 1), (2, 0)], 2)],
            [2, 4, 1, True],
        )

    def test_shares(self):
        self.assertEqual(
            [str(Share(4, -6)), Share(4, 2) == 2, str(1 - Share(1, 3)), str(total_of([Share(1, 2), 1]).over(3)),
             str(coin(1, 2, 2, 1))],
            ["-2/3", True, "2/3", "1/2", "4/9"],
        )

    def test_growth(self):
        growth = Growth(Kept(Web.shapes(4), Numbers.steady(1, 1)), (0, 0))
        one, two, three = growth.shares(3)
        self.assertEqual(
            [str(one), str(two), str(three), growth.ahead((3, 1)), str(growth.chance((2, 0), "ud", (2, 1))),
             growth.drawn_way([0, 1, 2, 3])],
            ["1/6", "2/3", "1/6", 2, "1/3", ((0, 0), (1, 0), (2, 1), (3, 2), (4, 4))],
        )


if __name__ == "__main__":
    unittest.main()
