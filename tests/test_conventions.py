"""What holds for every call: lists or tuples in, tuples out, nothing changed, and the promised sizes."""

import copy
import random
import unittest

from upsanddowns.alike import alike_words
from upsanddowns.amounts import plain, product_of
from upsanddowns.closed import closed_total, sizes_beneath, sizes_by_totals
from upsanddowns.corners import corner_many, corner_ranks, grid
from upsanddowns.desks import Desk
from upsanddowns.downsides import downs_many, downs_of, grown_with
from upsanddowns.ends import ends_at, is_one_to_one, layer_bound, level_bound, reaches_all, turning_rank
from upsanddowns.fillings import Filling, check_filling, filling_count, fillings_of
from upsanddowns.flat import flat_rows, product_parting, reflected_parting
from upsanddowns.folding import folded, folded_kept, folded_weights, lot_keeps, lot_sums
from upsanddowns.futures import agree_on, first_parting, floor_of_size, futures_many, size_ends, two_futures
from upsanddowns.gates import gate, is_gate, reached, ways_apart
from upsanddowns.grids import determinant, minor, nulls, rank_of, solve
from upsanddowns.growth import Growth
from upsanddowns.joins import beside, pair_of, place_of, product, raised_by, thick
from upsanddowns.judging import above, below, breach, judge, read_numbers
from upsanddowns.kept import Kept
from upsanddowns.leading import lead, lead_word
from upsanddowns.levels import core, level_of, parts, pure_basis, pure_part, pure_row, pures
from upsanddowns.listings import line_of, listing, table_text, words_text
from upsanddowns.living import alive, forbidden, late_sum, norm, pures_by_sizes
from upsanddowns.lotsapart import (
    comes_before, greatest_apart, is_apart, is_layered, most_layered, parting_rows, parting_ways,
)
from upsanddowns.makers import chain
from upsanddowns.matches import match_down, match_size, match_up
from upsanddowns.meeting import above_of, beneath_of, mass, meets, met_always, missing_way
from upsanddowns.mixtures import coin, split_shares
from upsanddowns.needs import may_end, need, next_fits, reflected, reflected_to
from upsanddowns.normal import joined, normal_row, normal_terms, told_count, told_counts
from upsanddowns.numbers import Numbers
from upsanddowns.own import product_pair, thick_numbers, told_apart
from upsanddowns.partings import Parting, coarsest, is_fair, unfair_pair
from upsanddowns.readback import back_row, is_blind, is_image, read_back, seen_from
from upsanddowns.rules import OwnRule, Rule, ShiftRule, peaks, rule_count, tokens
from upsanddowns.shares import Share, total_of
from upsanddowns.sizes import determinant_by_sizes, multiplicity, product_by_sizes, root_row, size_steps
from upsanddowns.spreads import (
    distance, likeness, mean, mean_back, ratio, slowest, two_levels, variance, variance_back,
)
from upsanddowns.strands import (
    down_ways, has_strands, single_ways, spread_row, spread_word, strand_numbers, up_ways,
)
from upsanddowns.symmetries import (
    Symmetry, group_of, is_symmetry, orbit_sizes, orbits, symmetries_of, turned_by_fixed, turned_total,
)
from upsanddowns.systems import odd_systems, sign_of, signed_sum, square_sum, systems_of, ways_table
from upsanddowns.texts import web_from, web_text
from upsanddowns.totals import all_words, by_formula, picks, total
from upsanddowns.treating import state_of, treat, treat_one, untreat
from upsanddowns.turning import (
    EvenRule, is_even_handed, is_own_turn, may_turn, own_turns, turn_peak, turn_token, turned_filling,
)
from upsanddowns.trials import tried
from upsanddowns.twosteps import down_up, factor, fading, mirror_row, times, up_down
from upsanddowns.unseen import OneTable, one_table
from upsanddowns.walks import count, counts, lowered, raised, walk_back, walks_of
from upsanddowns.webs import Web
from upsanddowns.weights import is_balanced, ring_apart, weights
from upsanddowns.words import heights, parted
from upsanddowns.writings import column_room, fewest_columns, grown_by, most_columns, writing_many, writings

from tests.helpers import all_tuples, any_webs

WEB = Web([[[1, 2]], [[1, 0], [2, 1]]], downs=[[[2, 1]], [[1, 1], [0, 1]]])
KEPT = Kept(Web.shapes(4), Numbers.steady(1, 1))
RULE = Rule(KEPT)
ONE = Numbers.steady(1, 1)
FILLING = Filling("ud", 1, [(0, 1, "swap", 0)])
GROWTH = Growth(KEPT, (0, 0))
CUBE = Kept(Web.subsets(3), Numbers.falling(3))
TURN = Symmetry([[0], [0, 2, 1], [1, 0, 2], [0]])
FLAT = Parting.flat(CUBE.sizes)
DESK = Desk(KEPT.web, KEPT.numbers, chosen=2)
WALK = [["u", 0, 1], ["u", 0, 1], ["d", 0, 0]]


def told(treated):
    return (treated.filling.entries, treated.walk, treated.place, treated.last_place)


def tables(web):
    return (web.sizes, web.ups, web.downs)


# Each call with its arguments as lists; the answers are plain values.
CALLS = [
    (lambda row: plain(row, 6), [[2, 4]]),
    (lambda row: (product_of(row),), [[2, 4]]),
    (lambda ups, downs, sizes: tables(Web(ups, downs=downs, sizes=sizes)), [[[[1, 2]]], [[[0, 1]]], [1, 2]]),
    (lambda ups: tables(Web(ups)), [[[[1, 2]]]]),
    (lambda children: tables(Web.tree(children)), [[2, 0, 1]]),
    (lambda ups, downs: tables(WEB.grown(ups, downs)), [[[1], [2]], [[3], [0]]]),
    (lambda place, other: (count(WEB, place, "uud", other),), [[0, 0], [1, 1]]),
    (lambda place: counts(WEB, place, "uud"), [[0, 0]]),
    (lambda place: tuple(walks_of(WEB, place, "uud")), [[0, 0]]),
    (lambda place, walk: walk_back(WEB, place, "ud", walk), [[0, 0], [["u", 1, 1], ["d", 0, 0]]]),
    (lambda reading: raised(WEB, 1, reading), [[3, -4]]),
    (lambda reading: lowered(WEB, 1, reading), [[3, -4]]),
    (lambda chosen: parted("uudd", chosen), [[3, 0]]),
    (lambda one, two: place_of(WEB, WEB, one, two), [[1, 0], [1, 1]]),
    (lambda place: pair_of(WEB, WEB, place), [[2, 3]]),
    (lambda rows: tables(thick(WEB, rows)), [[[2, 1], [1, 3]]]),
    (lambda pairs, tail: (Numbers(pairs, tail=tail).pairs, Numbers(pairs, tail=tail).tail), [[[1, 2], [0, 3]], [2, 2]]),
    (lambda pair: Numbers([]).changed(2, pair).pairs, [[4, 5]]),
    (lambda pair: Numbers([]).raised(2, pair).pairs, [[4, 5]]),
    (lambda place, other: (KEPT.count(place, "uudd", other),), [[2, 0], [2, 1]]),
    (lambda ups: tables(KEPT.cut(1).grown(ups).web), [[[1, 1]]]),
    (lambda rows: thick_numbers(KEPT, rows).pairs, [[[1, 1], [1, 2], [2, 2], [4, 1]]]),
    (lambda place, other: (told_count(KEPT, place, "uuuddd", other),), [[3, 0], [3, 1]]),
    (lambda place: told_counts(KEPT, place, "uuuddd"), [[3, 0]]),
    (lambda table: factor(table, 2, 1), [[[1, 2], [3, 4]]]),
    (lambda one, two: times(one, two), [[[1, 2]], [[3], [4]]]),
    (lambda above_table: OneTable(Numbers([]), 2, above_table).up_down(3), [[[2, 1], [1, 2]]]),
    (lambda place: (up_ways(WEB, place, 2), down_ways(WEB, place, 0)), [[0, 0]]),
    (lambda table: (determinant(table), rank_of(table), nulls(table)), [[[1, 2], [2, 4]]]),
    (lambda table, target: solve(table, target), [[[1, 2], [3, 5]], [1, 1]]),
    (lambda table, rows, columns: (minor(table, rows, columns),), [[[1, 2], [3, 5]], [1, 0], [0, 1]]),
    (lambda reading: pure_part(KEPT, 3, reading), [[3, 1, 4]]),
    (lambda reading: parts(KEPT, 3, reading), [[3, 1, 4]]),
    (lambda reading: core(KEPT, 3, reading, 2), [[3, 1, 4]]),
    (lambda reading: (level_of(KEPT, 3, reading),), [[1, 2, 1]]),
    (lambda reading: read_back(KEPT, 2, 1, reading), [[1, 3, 2]]),
    (lambda reading: (int(is_image(KEPT, 2, 1, reading)), int(is_blind(KEPT, 2, 1, reading))), [[1, 3, 2]]),
    (lambda reading: seen_from(KEPT, 2, 1, reading), [[1, 2]]),
    (lambda sizes: (closed_total(KEPT.numbers, sizes, 1, "uudd"),), [[1, 1, 2]]),
    (lambda table: sizes_beneath(KEPT.numbers, 2, table), [[[2, 1], [1, 2]]]),
    (lambda totals: sizes_by_totals(KEPT.numbers, 1, totals), [[1, 2]]),
    (lambda sizes: (pures_by_sizes(KEPT.numbers, sizes), forbidden(KEPT.numbers, sizes)), [[1, 1, 2]]),
    (lambda sizes: tables(late_sum(KEPT.numbers, sizes)), [[1, 1, 2]]),
    (lambda rows, reading: (norm(KEPT.web, rows, 2, reading),), [[[1], [1], [2, 3], [1, 1, 1]], [4, 5]]),
    (lambda shifts: (ShiftRule(KEPT, shifts).shifts, ShiftRule(KEPT, shifts).match(1, 0, 0)), [[[], [1], [2, 0], []]]),
    (lambda matches: (OwnRule(KEPT, matches).matches, OwnRule(KEPT, matches).match(1, 0, 0)), [[[1, 0, 0, [1, 0]]]]),
    (lambda peak, token: (RULE.token_of(2, 0, 0, peak), RULE.peak_of(2, 0, 0, token)), [[0, 0, 0], [0]]),
    (lambda entries: (Filling("ud", 1, entries).entries, Filling("ud", 1, entries).marks()), [[[0, 1, "mark", 0]]]),
    (lambda pair: (int(pair in FILLING),), [[0, 1]]),
    (lambda place, walk: told(treat(RULE, place, "uud", walk)), [[1, 0], WALK]),
    (lambda place, walk: state_of(RULE, place, "uud", walk), [[1, 0], WALK]),
    (lambda place, walk: treat_one(RULE, state_of(RULE, place, "uud", walk), 1), [[1, 0], WALK]),
    (lambda place, walk: untreat(RULE, place, FILLING, walk), [[1, 0], [["d", 0, 0], ["u", 0, 0]]]),
    (lambda place, walk: grid(RULE, place, walk, 1), [[0, 0], [["u", 0, 0], ["d", 0, 0]]]),
    (lambda token, peak: (turn_token(ONE, ONE, 2, token), turn_peak(peak)), [[0, 1, 0, 0], [0, 1, 2]]),
    (lambda one, two, walk: lead(RULE, RULE, one, two, walk, 1), [[0, 0], [0, 0], [["u", 0, 0], ["d", 0, 0]]]),
    (lambda place, walk: lead_word(RULE, place, "uud", walk, "uud"), [[1, 0], WALK]),
    (lambda ups, downs: (int(next_fits(KEPT.cut(1), ups, downs)),), [[[1, 1]], [[2, 0]]]),
    (lambda writing: tables(grown_by(KEPT.cut(2), writing).web), [[[1, 0], [0, 1], [1, 1]]]),
    (lambda ups: (tuple(downs_of(KEPT.cut(1), ups, 0)), downs_many(KEPT.cut(1), ups)), [[[1, 2]]]),
    (lambda ups, rows: tables(grown_with(KEPT.cut(1), ups, rows).web), [[[1, 2]], [[2, 0]]]),
    (lambda words: (int(agree_on(KEPT, KEPT, 2, words)),), [["ud", "u"]]),
    (lambda lot: tuple(systems_of(KEPT.web, 2, lot, 1)), [[1, 0, 1]]),
    (lambda lot, ends: (signed_sum(KEPT.web, 2, lot, 1, ends),), [[1, 0], [2, 0, 2]]),
    (lambda lot: (square_sum(KEPT, 2, lot, 3),), [[1, 0]]),
    (lambda lot: (ways_apart(KEPT.web, 2, lot, 2), gate(KEPT.web, 2, lot, 2)), [[1, 0, 1]]),
    (lambda lot: reached(KEPT.web, 2, lot, 2), [[1, 1]]),
    (lambda lot, places: (int(is_gate(KEPT.web, 2, lot, 1, places)),), [[1, 0], [[3, 0], [3, 1], [3, 1]]]),
    (lambda one, two: (int(comes_before(KEPT.web, one, two)),), [[1, 0], [3, 1]]),
    (lambda lot: (int(is_apart(KEPT.web, lot)), int(is_layered(KEPT.web, lot, 2))), [[[2, 1], [1, 0], [2, 1]]]),
    (lambda rows: (ends_at(KEPT, rows, 2), level_bound(KEPT, rows, 2)), [[[2], [2], [2, 2], [2] * 3, [2] * 5]]),
    (lambda row: (str(total_of(row)),), [[1, 2, 5]]),
    (lambda place: (Growth(KEPT, place).place, str(GROWTH(place))), [[0, 0]]),
    (lambda place: (GROWTH.ahead(place), GROWTH.back(place), str(GROWTH.share(place))), [[3, 1]]),
    (lambda place: tuple(map(str, GROWTH.step_up(place) + GROWTH.step_down(place))), [[3, 1]]),
    (lambda place, other: (str(GROWTH.chance(place, "uud", other)),), [[2, 1], [3, 1]]),
    (lambda place: tuple(map(str, GROWTH.chances(place, "uud"))), [[2, 1]]),
    (lambda row: GROWTH.drawn_way(row), [[5, 7, 1, 2]]),
    (lambda lot: (str(mass(GROWTH, lot)), str(meets(GROWTH, lot))), [[[2, 1], [3, 0], [2, 1]]]),
    (lambda lot: (int(met_always(GROWTH, lot)),) + missing_way(GROWTH, lot), [[[2, 1], [3, 0]]]),
    (lambda lot: (above_of(GROWTH, 2, lot), beneath_of(GROWTH, 2, lot)), [[1, 1]]),
    (lambda row: (str(mean(GROWTH, 2, row)), str(variance(GROWTH, 2, row))), [[3, 5]]),
    (lambda row: tuple(map(str, mean_back(GROWTH, 2, row, 1))) + (str(variance_back(GROWTH, 2, row, 1)),), [[3, 5]]),
    (lambda row: (int(two_levels(GROWTH, 2, row)),), [[3, 5]]),
    (lambda one, two: (str(distance(GROWTH, one, 1)), str(likeness(GROWTH, one, two, 1))), [[2, 0], [2, 1]]),
    (lambda rows: Parting(rows).rows, [[[[0]], [[2, 0], [1]], []]]),
    (lambda sizes: (Parting.single(sizes).rows, Parting.flat(sizes).rows), [[2, 0, 3]]),
    (lambda row: lot_sums(FLAT, 1, row), [[2, 3, 4]]),
    (lambda rows: folded_weights(CUBE.web, FLAT, rows), [[[2], [2, 2, 2], [2, 2, 2], [2]]]),
    (lambda rows: (Symmetry(rows).rows, Symmetry(rows).fixed_row()), [[[0], [1, 0, 2]]]),
    (lambda sizes: Symmetry.still(sizes).rows, [[2, 0]]),
    (lambda ones: tuple(one.rows for one in group_of(ones)), [[TURN]]),
    (lambda ones, sizes: orbits(ones, sizes).rows, [[TURN], [1, 3, 3, 1]]),
    (lambda fixed: (turned_by_fixed(CUBE.numbers, fixed, 1, "ud"),), [[1, 1, 1]]),
    (lambda rows: orbit_sizes(rows), [[[1, 2], [1, 0]]]),
    (lambda ups: Desk(Web.shapes(1)).tell(ups) + Desk(Web.shapes(1)).tell(ups, ups), [[[1, 1]]]),
    (lambda pair: Desk(Web.shapes(1)).renumber(1, pair), [[2, 3]]),
    (lambda rows: Desk(Web.shapes(2)).merge(rows), [[[[0]], [[0]], [[1, 0]]]]),
    (lambda place, other: (DESK.count(place, "ud", other),), [[2, 0], [2, 1]]),
    (lambda asked, row: DESK.told(count=asked, parts=row), [[[2, 0], "ud", [2, 1]], [3, 4]]),
    (lambda place: (str(DESK.shares(place)((2, 0))),), [[0, 0]]),
    (lambda deeds: tried(DESK, deeds), [[["reflect", []], ["lay", [0]], ["undo", []]]]),
    (lambda table: table_text(table), [[[1, -20], [300, 4]]]),
    (lambda words: words_text(KEPT, 2, words), [["ud", "ddd"]]),
]


def as_tuples(value):
    return tuple(as_tuples(one) for one in value) if isinstance(value, list) else value


def same_kinds(one, two):
    """True if both are equal and of one kind at every depth."""
    if type(one) is not type(two):
        return False
    if isinstance(one, tuple):
        return len(one) == len(two) and all(same_kinds(a, b) for a, b in zip(one, two))
    return one == two


class ConventionsTest(unittest.TestCase):
    def test_lists_and_tuples(self):
        for at, (call, args) in enumerate(CALLS):
            with self.subTest(at=at):
                given = copy.deepcopy(args)
                found = call(*given)
                self.assertTrue(all_tuples(found))
                self.assertEqual(given, args)
                self.assertTrue(same_kinds(given, args) or isinstance(given, list))
                self.assertTrue(same_kinds(call(*[as_tuples(one) for one in args]), found))
                self.assertTrue(same_kinds(call(*given), found))

    def test_results_are_tuples(self):
        numbers = Numbers([(1, 2), (2, 1)])
        found = [
            heights("udu", 2), WEB.up_row(0, 0), WEB.down_row(1, 0), tables(beside(WEB, WEB)),
            tables(product(WEB, WEB)), tables(raised_by(WEB, 2)), tables(~WEB), tables(WEB.cut(1)),
            tables(WEB.empty_rank()), tables(Web.shapes(3)), tables(Web.subsets(3)), tables(Web.spaces(2)),
            tables(Web.words(4)), weights(Web.shapes(3)), tables(chain(numbers, 1, 4)), numbers[0], numbers[9],
            below(WEB, 1), above(WEB, 1), breach(WEB, 1, 1, 1), judge(KEPT.web, 2).pair, judge(KEPT.web, 1).line,
            judge(WEB, 1).places, normal_row(numbers, "uudd", 2), normal_terms(numbers, "uudd", 2),
            joined(numbers, 2, "uu", "dd"), up_down(KEPT, 2, 2), down_up(KEPT, 2, 2), fading(KEPT, 3),
            mirror_row(numbers, 2, 2), one_table(KEPT, 2).down_up(1), alike_words(numbers, "uudd", 1),
            told_apart(KEPT, 3), ring_apart(Web([[[1]]], downs=[[[0]]])), KEPT.sizes, KEPT.below(2), KEPT.above(2),
            KEPT.pair_at(1), Numbers.falling(2).dead_pair(4),
            strand_numbers(KEPT.web, 2), spread_row(numbers, numbers, 2, 3), spread_word(numbers, numbers, 2, "ud"),
            nulls([[1, 2]]), solve([[1, 2]], [3]), size_steps(WEB), root_row(KEPT, 3), pure_basis(KEPT.web, 3),
            pure_basis(KEPT.web, 0), pure_row(numbers, 2), parts(KEPT, 2, (1, 0)), back_row(numbers, 1, 2),
            sizes_beneath(KEPT.numbers, 2, KEPT.above(2)), sizes_by_totals(KEPT.numbers, 1, (1, 2), upward=False),
            pures_by_sizes(numbers, (1, 2)), tables(late_sum(numbers, (1, 2))), peaks(KEPT, 2, 0, 0),
            tokens(KEPT, 2, 0, 0), RULE.token_numbers(2, 0, 0), RULE.match(2, 0, 0),
            EvenRule(KEPT, ONE).match(2, 1, 0), tuple(one.entries for one in fillings_of(ONE, "uudd", 1)),
            check_filling(ONE, FILLING).left(), corner_ranks(FILLING), turned_filling(ONE, ONE, FILLING).entries,
            need(KEPT), tables(reflected(KEPT).web), tables(reflected_to(KEPT, 5).web),
            tuple(writings(KEPT.cut(3))),
            size_ends(KEPT), ways_table(WEB, 0, 2), tuple(systems_of(WEB, 1, (0, 1), 1)),
            ways_apart(WEB, 0, (0,), 2, side="downs"), gate(WEB, 0, (0,), 2), reached(WEB, 0, (0,), 2),
            parting_rows(WEB), parting_ways(KEPT), greatest_apart(WEB), ends_at(KEPT, weights(KEPT.web), 3),
        ]
        for one in (match_up(WEB, 1), match_down(WEB, 1), GROWTH.shares(2), GROWTH.step_up((2, 0)),
                    GROWTH.step_down((2, 0)), GROWTH.chances((2, 0), "u"), split_shares(GROWTH, GROWTH, 2)):
            self.assertIsInstance(one, tuple)
        for at, one in enumerate(found):
            self.assertIsInstance(one, tuple, msg=at)
            self.assertTrue(all_tuples(one), msg=at)

    def test_results_of_folds_and_desks_are_tuples(self):
        desk = Desk(Web.shapes(2))
        found = [
            missing_way(GROWTH, ()), above_of(GROWTH, 1, (0,)), beneath_of(GROWTH, 2, (0,)), FLAT.rows, FLAT.lots(1),
            FLAT.lot_sizes(), unfair_pair(CUBE.web, Parting([[[0]], [[0, 1], [2]], [[0, 1, 2]], [[0]]])),
            coarsest(CUBE.web, FLAT).rows, tables(folded(CUBE.web, FLAT)), tables(folded_kept(CUBE, FLAT).web),
            TURN.rows, TURN.fixed_row(), TURN.then(TURN).rows, TURN.undone().rows, flat_rows(CUBE.web),
            product_parting(WEB, WEB, Parting.single(WEB.sizes), Parting.single(WEB.sizes)).rows,
            reflected_parting(KEPT, Parting.flat(KEPT.sizes)).rows, desk.deeds(), desk.reflect(),
            desk.merge([[[0]], [[0]], [[0, 1]], [[0, 1, 2]]]), desk.renumber(3, [1, 2]), desk.deeds(),
            desk.news_of(0), desk.size_row, desk.sizes_ahead(0), desk.forget(1), desk.told(), desk.undo(),
            desk.split(), listing(desk),
        ]
        for at, one in enumerate(found):
            self.assertIsInstance(one, tuple, msg=at)
            self.assertTrue(all_tuples(one), msg=at)
        for one in (desk.sizes_ahead(2), desk.sizes_ahead(2)[1], group_of([TURN]), symmetries_of(CUBE.web),
                    mean_back(GROWTH, 2, (1, 2), 1), two_futures(Kept(Web([], sizes=[1]), Numbers([(1, 4)])))):
            self.assertIsInstance(one, tuple)
        self.assertEqual(line_of(KEPT, 4), "rank 4: size 5, gain 4")

    def test_integers_are_no_bools(self):
        for one in (WEB.top, WEB[0], len(WEB), count(WEB, (0, 0), "", (0, 0)), count(WEB, (0, 0), "d", (0, 0)),
                    Numbers([]).gain(0, 1), Numbers([]).swaps(0, 0), told_count(KEPT, (0, 0), "", (0, 0)),
                    product_pair(KEPT, KEPT, 1), one_table(KEPT, 1).count(0, "ud", 0), KEPT.top,
                    total(KEPT, 0, "ud"), total(KEPT, 0, "u"), picks("ud", 0), picks("ud", 2),
                    all_words(Numbers([]), 1, 2, 0, 0), by_formula(1, 2, 0, 0), by_formula(1, 1, 0, 0),
                    up_ways(WEB, (0, 0), 0), down_ways(WEB, (0, 0), 1), single_ways(KEPT.numbers, KEPT.numbers, 0, 1),
                    determinant([]), rank_of([]), minor([[1]], [], []), determinant_by_sizes(KEPT, 1, -1),
                    multiplicity(KEPT, 1, 9), product_by_sizes(KEPT, 1, 0), pures(WEB, 1),
                    level_of(KEPT, 1, (1,)), closed_total(KEPT.numbers, [1], 0, "u"), norm(WEB, [[1]], 0, [1]),
                    forbidden(Numbers([]), [2, 1]), rule_count(KEPT, 0), filling_count(ONE, "ud", 1, 0),
                    filling_count(ONE, "ud", 1, 5), FILLING.many_marks, len(FILLING), FILLING.meeting(0, 1),
                    FILLING.rank_at(1, 1), corner_many(ONE, 0, 1, 1, 1, 0), corner_many(ONE, 0, 1, 1, 1, 1),
                    own_turns(ONE, ONE, 0, 2), writing_many(KEPT), fewest_columns(KEPT), most_columns(KEPT),
                    column_room(KEPT), first_parting(KEPT, Kept(Web.words(3), ONE)), floor_of_size(ONE, ONE, 0, 3),
                    futures_many(KEPT, 0), futures_many(KEPT.cut(2), 1), sign_of(()), signed_sum(WEB, 0, [0], 1, []),
                    signed_sum(WEB, 0, [0], 1, [1]), square_sum(KEPT, 2, [], 2), match_size(WEB, 0),
                    most_layered(KEPT, 0, 2), most_layered(KEPT, 1, 2), layer_bound(WEB, 0), layer_bound(WEB, 1),
                    level_bound(KEPT, weights(KEPT.web), 1), turning_rank(WEB, 0), GROWTH.ahead((1, 0)),
                    GROWTH.back((1, 0)), GROWTH.origin_rank, Share(0).part, Share(1).whole, coin(1, 1, 0, 0).part,
                    slowest(KEPT, 2), len(FLAT), FLAT.lot_of(1, 0), TURN.image(1, 0), TURN.fixed(0), TURN.order(),
                    turned_total(CUBE, TURN, 1, "u"), turned_total(CUBE, TURN, 1, "ud"),
                    turned_by_fixed(CUBE.numbers, [1], 0, "d"), DESK.top, DESK.standing, DESK.chosen,
                    DESK.count((0, 0), "d", (0, 0)), DESK.total("u"), DESK.total(""), DESK.gate_size(1, 1),
                    DESK.apart(0), DESK.apart()):
            self.assertIs(type(one), int)
        for web in any_webs():
            for table in web.ups + web.downs:
                self.assertTrue(all(type(entry) is int for row in table for entry in row))

    def test_bools_are_bools(self):
        for one in (WEB.is_even, WEB.is_simple, WEB.is_fresh(0, 0), is_balanced(WEB), KEPT.lively,
                    Numbers([]).is_plain, Numbers([]).is_positive, Numbers([]).lively_to(3), WEB == WEB,
                    judge(WEB, 0).allows(1, 1), has_strands(WEB, 0, 1, 1), alive(KEPT.numbers, 0, 0),
                    alive(KEPT.numbers, 1, 0), is_image(KEPT, 1, 0, (1,)), is_blind(KEPT, 1, 0, (1,)),
                    (0, 1) in FILLING, FILLING == FILLING, may_turn(KEPT, 0, 1, 1), is_even_handed(RULE, ONE),
                    is_own_turn(ONE, ONE, FILLING), may_end(KEPT), next_fits(KEPT.cut(0), [[1]]),
                    agree_on(KEPT, KEPT, 1, []), odd_systems(KEPT, 0, 0), odd_systems(KEPT, 2, 2),
                    is_gate(WEB, 0, [0], 1, []), comes_before(WEB, (0, 0), (0, 0)), is_apart(WEB, []),
                    is_layered(WEB, [(0, 0)], 0), is_one_to_one(WEB, 0), reaches_all(WEB, 0),
                    Share(1) == 1, Share(1) == Share(2), Share(0).is_nought(), Share(1).at_least(0),
                    met_always(GROWTH, []), two_levels(GROWTH, 1, [1]), FLAT == FLAT, FLAT.within(FLAT),
                    is_fair(CUBE.web, FLAT), lot_keeps(CUBE.web, FLAT, 0, 1, 1), TURN == TURN,
                    is_symmetry(CUBE.web, TURN), is_symmetry(WEB, TURN), DESK.same_as(DESK), DESK.same_as(None)):
            self.assertIs(type(one), bool)


def range_list(many):
    return list(range(many))


class SizesTest(unittest.TestCase):
    """Each of these takes a moment, as long as nothing is listed that is only counted."""

    def table(self, dice):
        return [[dice.randint(0, 10 ** 12) for _ in range(40)] for _ in range(40)]

    def test_great_webs(self):
        dice = random.Random(5)
        web = Web([self.table(dice) for _ in range(11)], downs=[self.table(dice) for _ in range(11)])
        word = "uuuudddduudd"
        row = counts(web, (5, 3), word)
        self.assertEqual(count(web, (5, 3), word, (5, 7)), row[7])
        walk = next(walks_of(web, (5, 3), word, limit=10 ** 300))
        self.assertEqual(walk_back(~web, (5, walk[-1][2]), "uudduuuudddd", walk_back(web, (5, 3), word, walk)), walk)
        self.assertIsNone(weights(web))
        self.assertEqual(judge(web, 5).word, "none")
        self.assertEqual(web_from(web_text(web)), web)

    def test_great_kept_webs(self):
        many = 10 ** 12
        diagonal = [[many if x == y else 0 for x in range(40)] for y in range(40)]
        ones = [[int(x == y) for x in range(40)] for y in range(40)]
        downs = [diagonal] + [ones] * 10
        web = Web([ones] * 11, downs=downs)
        kept = Kept(web, read_numbers(web))
        self.assertEqual(told_count(kept, (11, 3), "uuuuuudddddd", (11, 4)), 0)
        self.assertGreater(told_count(kept, (11, 3), "uuuuuudddddd", (11, 3)), 0)
        self.assertEqual(len(up_down(kept, 11, 6)), 40)
        self.assertEqual(len(down_up(kept, 11, 6)), 40)
        self.assertFalse(any(any(row) for row in fading(kept, 11)))

    def test_great_levels(self):
        dice = random.Random(6)
        numbers = Numbers([(10 ** 12 - n, 10 ** 12 - 3 * n) for n in range(12)])
        sizes = sorted(dice.randint(1, 40) for _ in range(12))
        kept = Kept(late_sum(numbers, sizes), numbers)
        self.assertEqual(total(kept, 11, "uuuuuudddddd"), closed_total(numbers, sizes, 11, "uuuuuudddddd"))
        self.assertEqual(sizes_beneath(numbers, 10, kept.above(10)), tuple(sizes[:11]))
        self.assertEqual(determinant(kept.above(10)), determinant_by_sizes(kept, 10, 0))
        totals = [total(kept, 11, "d" * j + "u" * j) for j in range(12)]
        self.assertEqual(sizes_by_totals(numbers, 11, totals, upward=False), tuple(sizes))
        reading = [dice.randint(-99, 99) for _ in range(sizes[8])]
        self.assertEqual(read_back(kept, 8, 3, seen_from(kept, 8, 3, reading)), (tuple(reading), 1))
        self.assertEqual(len(parts(kept, 11, list(range(sizes[11])))), 12)
        self.assertEqual(pures(kept.web, 11), sizes[11] - sizes[10])

    def test_great_growth(self):
        many = 10 ** 12
        numbers = Numbers([(many - n, many - 3 * n) for n in range(12)])
        sizes = [3, 8, 8, 20, 31, 31, 31, 40, 40, 40, 40, 40]
        kept = Kept(late_sum(numbers, sizes), numbers)
        growth = Growth(kept, (1, 5))
        self.assertEqual(sum(one.part for one in growth.shares(11)), 1)
        self.assertEqual(len(growth.chances((11, growth.shares(11).index(Share(1))), "dddddduuuuuu")), 40)
        self.assertEqual(len(growth.drawn_way([many ** 9] * 10)), 11)
        self.assertEqual(square_sum(kept, 11, list(range(40)), 6), product_by_sizes(kept, 11, 6))
        self.assertEqual(level_bound(kept, weights(kept.web), 3), 120)
        self.assertEqual(len(parting_ways(kept)), 40)
        self.assertIs(odd_systems(Kept(Web.shapes(7), ONE), 7, 500), False)
        dice = random.Random(8)
        web = Web([self.table(dice) for _ in range(11)], downs=[self.table(dice) for _ in range(11)])
        self.assertEqual(layer_bound(web, 10), 10 * 40)
        self.assertNotEqual(signed_sum(web, 0, range_list(12), 11, range_list(12), side="downs"), 0)
        self.assertEqual(len(gate(web, 0, range_list(40), 11)), 40)

    def test_great_folds(self):
        many = 10 ** 12
        thin = [[many] * 40] * 40
        kept = Kept(Web([[[many] * 40]] + [thin] * 10), Numbers(
            [(1, 40 * many ** 2)] + [(40, 0)] + [(1, 0)] * 9
        ))
        flat = Parting.flat(kept.sizes)
        self.assertEqual(flat_rows(kept.web)[0], (40 * many,) * 11)
        fold = folded_kept(kept, flat)
        self.assertEqual(fold.sizes, (1,) * 12)
        self.assertEqual(coarsest(kept.web, Parting([[[0]]] + [[list(range(39)), [39]]] * 11)).lot_sizes()[11], 2)
        wheel = Symmetry([[0]] + [[(x + 1) % 40 for x in range(40)]] * 11)
        self.assertIs(is_symmetry(kept.web, wheel), True)
        self.assertEqual(len(group_of([wheel])), 40)
        self.assertEqual(orbits(group_of([wheel]), kept.sizes), flat)
        self.assertEqual(turned_total(kept, wheel, 11, "uuuuuudddddd"), turned_by_fixed(
            kept.numbers, wheel.fixed_row(), 11, "uuuuuudddddd"))
        growth = Growth(kept, (0, 0))
        self.assertEqual(str(ratio(growth, 9, 2, 1)), "0/1")
        self.assertEqual(str(distance(growth, (5, 3), 6)), "1/1")
        self.assertEqual(variance_back(growth, 5, list(range(40)), 6), 0)

    def test_great_desks(self):
        many = 10 ** 12
        numbers = Numbers([(many - n, many - 3 * n) for n in range(12)])
        desk = Desk(late_sum(numbers, [3, 8, 8, 20, 31, 31, 31, 40, 40, 40, 40, 40]), numbers)
        for n in range(50):
            desk.merge([[range_list(size)] for size in desk.size_row])
            desk.renumber(11, (n, many - n))
        self.assertEqual(desk.standing, 100)
        self.assertEqual(desk.lots().sizes, (1, 2, 2, 3, 4, 4, 4, 5, 5, 5, 5, 5))
        self.assertEqual(desk.apart(2), 80)
        self.assertEqual(desk.gate_size(3, 11), 20)
        self.assertEqual(len(listing(desk)), 15)
        desk.undo(100)
        self.assertEqual(desk.stored, numbers)

    def test_great_rules(self):
        kept = Kept(Web([[[10] * 10], [[20]] * 10], downs=[[[10] * 10], [[5]] * 10]), Numbers([(1, 1000), (1, 0)]))
        rule = ShiftRule(kept, [[999], [7, 11]])
        walk = [("u", 9, 3), ("u", 19, 0), ("d", 4, 7), ("d", 2, 0)]
        done = treat(rule, (0, 0), "uudd", walk)
        self.assertEqual(untreat(rule, (0, 0), done.filling, done.walk), tuple(walk))
        self.assertEqual(filling_count(Numbers.steady(1000, 1000), "uuuuuudddddd", 11, 0), 1000 ** 36)
        self.assertEqual(len(list(fillings_of(Numbers.steady(0, 1), "uuuuuudddddd", 11))), 1)
        self.assertEqual(reflected(Kept(Web.shapes(6), ONE.changed(6, (1, 3)))).sizes[7], 40)

    def test_great_grids(self):
        table = self.table(random.Random(7))
        row, den = solve(table, [1] * 40)
        self.assertEqual([sum(one * two for one, two in zip(line, row)) for line in table], [den] * 40)
        wide = [line + [sum(line)] for line in table]
        self.assertEqual(nulls(wide), ((1,) * 40 + (-1,),))
        self.assertEqual(rank_of(wide), 40)

    def test_great_numbers(self):
        many = 10 ** 12
        numbers = Numbers([(many - n, many - 3 * n) for n in range(30)], tail=(many, -many))
        self.assertEqual(joined(numbers, 6, "uududd", "uuuddd"), normal_row(numbers, "uududduuuddd", 6))
        row, den = mirror_row(numbers, 12, 12)
        self.assertEqual(len(row), 13)
        self.assertIn("uuuuuddddd", alike_words(numbers, "uuuuuddddd", 11))


if __name__ == "__main__":
    unittest.main()
