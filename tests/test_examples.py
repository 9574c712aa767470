"""The examples of the interface give the answers that stand there."""

import unittest

from upsanddowns.alike import apart_start
from upsanddowns.closed import sizes_beneath
from upsanddowns.corners import grid
from upsanddowns.desks import Desk
from upsanddowns.downsides import downs_of
from upsanddowns.ends import layer_bound, turning_rank
from upsanddowns.errors import NotKept
from upsanddowns.fillings import fillings_of
from upsanddowns.flat import flat_rows
from upsanddowns.folding import folded
from upsanddowns.gates import gate, is_gate, reached, ways_apart
from upsanddowns.growth import Growth
from upsanddowns.judging import above, below, judge
from upsanddowns.kept import Kept
from upsanddowns.levels import parts, pure_row
from upsanddowns.listings import listing
from upsanddowns.living import forbidden, late_sum, pures_by_sizes
from upsanddowns.lotsapart import is_layered
from upsanddowns.meeting import above_of, mass, met_always
from upsanddowns.mixtures import coin
from upsanddowns.needs import need, reflected_to
from upsanddowns.normal import normal_row, told_count
from upsanddowns.numbers import Numbers
from upsanddowns.partings import Parting, coarsest, unfair_pair
from upsanddowns.readback import back_row
from upsanddowns.rules import Rule
from upsanddowns.shares import Share, total_of
from upsanddowns.sizes import determinant_by_sizes
from upsanddowns.spreads import distance, ratio, slowest, two_levels, variance, variance_back
from upsanddowns.strands import single_ways
from upsanddowns.symmetries import Symmetry, orbits, turned_by_fixed, turned_total
from upsanddowns.systems import odd_systems, signed_sum, square_sum, systems_of
from upsanddowns.texts import web_text
from upsanddowns.trials import tried
from upsanddowns.twosteps import mirror_row
from upsanddowns.unseen import OneTable
from upsanddowns.walks import walks_of
from upsanddowns.webs import Web
from upsanddowns.weights import weights
from upsanddowns.writings import writings


class ExamplesTest(unittest.TestCase):
    def test_web(self):
        web = Web([[[1, 2]], [[1], [0]]])
        self.assertEqual(
            [web.sizes, web.top, web.is_even, web.is_simple, web.up_row(0, 0), web.down_row(2, 0), web.is_fresh(1, 1)],
            [(1, 2, 1), 2, True, False, (1, 2), (1, 0), False],
        )

    def test_text(self):
        self.assertEqual(web_text(Web([[[1]]], downs=[[[0]]])), "unlike\nrank 0 size 1\nrank 1 size 1\nup 0 0 1")

    def test_walks(self):
        self.assertEqual(
            list(walks_of(Web.shapes(3), (1, 0), "ud")),
            [(("u", 0, 0), ("d", 0, 0)), (("u", 0, 1), ("d", 0, 0))],
        )

    def test_weights(self):
        self.assertEqual(weights(Web([[[2, 1]]], downs=[[[1, 1]]])), ((2,), (1, 2)))

    def test_numbers(self):
        falling = Numbers.falling(3)
        self.assertEqual(
            [falling.gain(0, 1), falling.gain(0, 2), falling.gain(0, 3), falling.gain(0, 4),
             falling.val(0, 1, "ud"), falling.dead_pair(3), falling.dead_pair(4)],
            [3, 4, 3, 0, 4, (1, 2), (1, 2)],
        )

    def test_judging(self):
        web = Web.shapes(3)
        self.assertEqual(
            [below(web, 2), above(web, 2), judge(web, 2).word, judge(web, 2).pair, judge(web, 0).line],
            [((1, 1), (1, 1)), ((2, 1), (1, 2)), "one", (1, 1), (0, 1)],
        )

    def test_kept(self):
        with self.assertRaises(NotKept) as caught:
            Kept(Web([[[1], [2]]]), Numbers.steady(1, 1))
        self.assertEqual((caught.exception.rank, caught.exception.first, caught.exception.second), (0, 0, 1))

    def test_words(self):
        one = Numbers.steady(1, 1)
        kept = Kept(Web.shapes(2), one)
        self.assertEqual(
            [normal_row(one, "uudd", 2), normal_row(one, "uudd", 1), told_count(kept, (2, 0), "uudd", (2, 1))],
            [(1, 4, 2), (0, 4, 2), 5],
        )

    def test_one_table(self):
        table = OneTable(Numbers.steady(1, 1), 2, [[2, 1], [1, 2]])
        self.assertEqual(
            [table.table_below, table.down_up(2), table.up_down(2), table.count(0, "uudd", 1)],
            [((1, 1), (1, 1)), ((1, 1), (1, 1)), ((7, 5), (5, 7)), 5],
        )

    def test_mirror_and_late_chain(self):
        one = Numbers.steady(1, 1)
        self.assertEqual(
            [mirror_row(Numbers.steady(2, 3), 1, 1), apart_start(one, "udud", "uudd", 1), single_ways(one, one, 0, 4)],
            [((-3, 1), 2), 1, 10],
        )

    def test_levels(self):
        kept = Kept(Web.subsets(3), Numbers.falling(3))
        self.assertEqual(
            [determinant_by_sizes(kept, 1, 1), pure_row(kept.numbers, 1), parts(kept, 1, (1, 0, 0))],
            [20, ((3, -1), 3), (((1, 1, 1), 3), ((2, -1, -1), 3))],
        )

    def test_reading_back(self):
        falling = Numbers.falling(3)
        self.assertEqual(
            [back_row(falling, 1, 1), sizes_beneath(falling, 1, [[2, 1, 1], [1, 2, 1], [1, 1, 2]])],
            [((4, -1), 4), (1, 3)],
        )

    def test_living(self):
        falling = Numbers.falling(2)
        self.assertEqual(
            [pures_by_sizes(falling, (1, 2, 1)), late_sum(falling, (1, 2, 1)).downs, forbidden(falling, (1, 1, 2, 2))],
            [(1, 1, 0), (((2, 0),), ((2,), (0,))), 2],
        )

    def test_rules(self):
        kept = Kept(Web.shapes(2), Numbers.steady(1, 1))
        self.assertEqual(Rule(kept).match(1, 0, 0), (((0, 0, 0), (0, 0, 0, 0)), ((1, 0, 0), (0,))))

    def test_fillings(self):
        found = list(fillings_of(Numbers.steady(1, 1), "uudd", 0))
        self.assertEqual(
            (found[0].entries, found[1].entries, len(found)),
            (((0, 2, "mark", 0), (1, 2, "swap", 0), (1, 3, "mark", 0)), ((0, 3, "mark", 0), (1, 2, "mark", 0)), 2),
        )

    def test_corners(self):
        kept = Kept(Web.shapes(2), Numbers.steady(1, 1))
        walk = [("u", 0, 0), ("u", 0, 0), ("d", 0, 0), ("d", 0, 0)]
        self.assertEqual(
            grid(Rule(kept), (0, 0), walk, 2),
            (((0, 0), (0, 0), (0, 0)), ((1, 0), (0, 0), (0, 0)), ((2, 0), (1, 0), (0, 0))),
        )

    def test_needs(self):
        kept = Kept(Web.shapes(2), Numbers.steady(1, 1))
        self.assertEqual((need(kept), reflected_to(kept, 5).web.sizes), (((2, 1), (1, 2)), (1, 1, 2, 3, 5, 8)))

    def test_writings(self):
        kept = Kept(Web([], sizes=[1]), Numbers([(1, 4)]))
        self.assertEqual(list(writings(kept)), [((1,), (1,), (1,), (1,)), ((2,),)])

    def test_downsides(self):
        kept = Kept(Web([], sizes=[1]), Numbers([(1, 4)]))
        self.assertEqual(list(downs_of(kept, [[1, 3]], 0)), [(1, 1), (4, 0)])

    def test_systems(self):
        kept = Kept(Web.subsets(3), Numbers.falling(3))
        found = list(systems_of(kept.web, 1, (0, 1, 2), 1))
        self.assertEqual(
            [found, signed_sum(kept.web, 1, (0, 1, 2), 1, [2, 1, 0]), square_sum(kept, 1, [0, 1, 2], 1),
             odd_systems(kept, 1, 1)],
            [[(((0, 0),), ((0, 2),), ((0, 1),)), (((0, 1),), ((0, 0),), ((0, 2),))], -2, 4, False],
        )

    def test_gates(self):
        web = Web([[[1], [1]], [[1, 1]]])
        self.assertEqual(
            [len(ways_apart(web, 0, (0, 1), 2)), gate(web, 0, (0, 1), 2), reached(web, 0, [1], 2),
             is_gate(web, 0, [0, 1], 2, [(2, 0)])],
            [1, ((1, 0),), (0, 1), False],
        )

    def test_ends(self):
        web = Web([[[1, 0]], [[0], [1]]], downs=[[[0, 0]], [[0], [0]]])
        self.assertEqual(
            [layer_bound(web, 1), layer_bound(web, 2), turning_rank(web, 2),
             is_layered(web, [(0, 0), (1, 0), (1, 1), (2, 0)], 2)],
            [2, 4, 1, True],
        )

    def test_shares(self):
        self.assertEqual(
            [str(Share(4, -6)), Share(4, 2) == 2, str(1 - Share(1, 3)), str(total_of([Share(1, 2), 1]).over(3)),
             str(coin(1, 2, 2, 1))],
            ["-2/3", True, "2/3", "1/2", "4/9"],
        )

    def test_growth(self):
        growth = Growth(Kept(Web.shapes(4), Numbers.steady(1, 1)), (0, 0))
        one, two, three = growth.shares(3)
        self.assertEqual(
            [str(one), str(two), str(three), growth.ahead((3, 1)), str(growth.chance((2, 0), "ud", (2, 1))),
             growth.drawn_way([0, 1, 2, 3])],
            ["1/6", "2/3", "1/6", 2, "1/3", ((0, 0), (1, 0), (2, 1), (3, 2), (4, 4))],
        )

    def test_meeting_and_spreads(self):
        growth = Growth(Kept(Web.shapes(4), Numbers.steady(1, 1)), (0, 0))
        met = [str(mass(growth, [(2, 1), (3, 0)])), met_always(growth, [(2, 1), (3, 0)]), above_of(growth, 2, [0])]
        spread = [
            str(variance(growth, 2, (1, 0))), str(variance_back(growth, 2, (1, 0), 1)), str(distance(growth, (2, 0), 1)),
        ]
        self.assertEqual(
            [met, spread, slowest(growth.kept, 2), str(ratio(growth, 2, 1, 2)), two_levels(growth, 2, (1, 0))],
            [["2/3", False, (0, 1)], ["1/4", "1/12", "4/3"], 2, "1/3", True],
        )

    def test_partings(self):
        web = Web.subsets(3)
        told = Parting([[[0]], [[0, 1], [2]], [[0, 1, 2]], [[0]]])
        self.assertEqual(
            [unfair_pair(web, told), coarsest(web, told).rows],
            [(2, 0, 1, "downs"), (((0,),), ((0, 1), (2,)), ((0,), (1, 2)), ((0,),))],
        )

    def test_folding(self):
        web = Web.subsets(3)
        turn = Symmetry([[0], [0, 2, 1], [1, 0, 2], [0]])
        fold = folded(web, orbits([turn], web.sizes))
        self.assertEqual(
            [fold.sizes, fold.ups[:2], fold.downs[:2]],
            [(1, 2, 2, 1), (((1, 2),), ((2, 0), (1, 1))), (((1, 1),), ((1, 0), (1, 2)))],
        )

    def test_symmetries(self):
        kept = Kept(Web.subsets(3), Numbers.falling(3))
        turn = Symmetry([[0], [0, 2, 1], [1, 0, 2], [0]])
        self.assertEqual(
            [turn.fixed_row(), turned_total(kept, turn, 1, "ud"), turned_by_fixed(kept.numbers, [1, 1, 1, 1], 1, "ud")],
            [(1, 1, 1, 1), 4, 4],
        )

    def test_flat(self):
        self.assertEqual(flat_rows(Web.subsets(3)), ((3, 2, 1), (1, 2, 3)))

    def test_desks(self):
        desk = Desk(Web.shapes(2))
        self.assertEqual(
            [desk.reflect(), desk.size_row, desk.apart(2), desk.undo(), desk.sizes_ahead(2)],
            [("rank 3 size 3", "keeps 1 1", "sizes ahead at least 3", "lots 3", "writings 1"), (1, 1, 2, 3), 5, (),
             ((2, 4), (2, None))],
        )

    def test_trials(self):
        desk = Desk(Web.shapes(1))
        self.assertEqual(
            [tried(desk, [("lay", [0]), ("end", []), ("split", [])]), desk.top, desk.standing],
            [(("rank 2 size 2", "keeps 1 1", "sizes ahead at least 2", "lots 2", "writings 1"), ("refused", "NotKept")),
             1, 0],
        )

    def test_news(self):
        desk = Desk(Web.subsets(2), Numbers.falling(2))
        self.assertEqual(
            [desk.merge([[[0]], [[0, 1]], [[0]]]), desk.end()],
            [(), ("rank 3 size 0", "keeps 1 -2", "lots 0", "writings 1", "ends")],
        )

    def test_listings(self):
        desk = Desk(Web.subsets(2), Numbers.falling(2))
        desk.merge([[[0]], [[0, 1]], [[0]]])
        self.assertEqual(listing(desk), (
            "web of 3 ranks, even", "rank 0: size 1, keeps 1 2, gain 0, up 2, down 2",
            "rank 1: size 2, keeps 1 0, gain 2, up 2, down 2", "rank 2: size 1, gain 2", "lots 1 1 1", "deeds merge",
        ))


if __name__ == "__main__":
    unittest.main()
