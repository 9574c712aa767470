"""Each name of the interface stands where it is listed, with the arguments that are listed."""

import ast
import importlib
import inspect
import pathlib
import unittest

PACKAGE = pathlib.Path(__file__).resolve().parent.parent / "upsanddowns"

FUNCTIONS = {
    "amounts": ["is_int(one)", "check_number(name, one, least)", "product_of(row)", "plain(row, den)"],
    "texts": ["web_text(web)", "web_from(text)"],
    "words": [
        "check_word(word)", "rise(word)", "heights(word, rank)", "dips(word, rank)", "climb(word, rank)",
        "turned(word)", "parted(word, chosen)",
    ],
    "walks": [
        "count(web, place, word, other)", "counts(web, place, word)", "walks_of(web, place, word, *, limit=500)",
        "walk_back(web, place, word, walk)", "raised(web, rank, reading)", "lowered(web, rank, reading)",
    ],
    "joins": [
        "beside(first, *rest)", "product(one, other)", "exchanged(web)", "place_of(one, other, first, second)",
        "pair_of(one, other, place)", "raised_by(web, many)", "thick(web, rows)",
    ],
    "weights": ["weights(web)", "ring_apart(web)", "is_balanced(web)"],
    "makers": ["chain(numbers, start, top)"],
    "numbers": ["last_alive(numbers, start, most)", "first_not_above(numbers, start, most)"],
    "judging": [
        "below(web, rank)", "above(web, rank)", "breach(web, rank, q, r)", "keeps(web, rank, q, r)",
        "judge(web, rank)", "read_numbers(web)",
    ],
    "own": [
        "own_numbers(kept, rank)", "told_apart(kept, rank)", "product_pair(one, other, rank)",
        "thick_numbers(kept, rows)",
    ],
    "normal": [
        "normal_row(numbers, word, rank)", "normal_terms(numbers, word, rank)",
        "told_count(kept, place, word, other)", "told_counts(kept, place, word)",
        "joined(numbers, rank, first, second)",
    ],
    "twosteps": [
        "up_down(kept, rank, steps)", "down_up(kept, rank, steps)", "factor(table, scale, shift)",
        "times(one, other)", "mirror_row(numbers, rank, steps)", "fading(kept, rank)",
    ],
    "unseen": ["one_table(kept, rank)", "same_words(kept, rank, other, other_rank)"],
    "alike": [
        "are_alike(numbers, word, other, rank)", "apart_start(numbers, word, other, rank)",
        "same_everywhere(numbers, word, other, rank)", "alike_words(numbers, word, rank)",
    ],
    "totals": [
        "total(kept, rank, word)", "picks(word, many)", "all_words(numbers, rank, length, downs, ups)",
        "by_formula(r, length, downs, ups)",
    ],
    "strands": [
        "strand_numbers(web, rank)", "has_strands(web, rank, g, f)", "up_ways(web, place, steps)",
        "down_ways(web, place, steps)", "spread_row(numbers, strands, rank, steps)",
        "single_ways(numbers, strands, start, steps)", "spread_word(numbers, strands, rank, word)",
    ],
    "grids": [
        "determinant(table)", "rank_of(table)", "nulls(table)", "solve(table, target)", "minor(table, rows, columns)",
    ],
    "sizes": [
        "size_steps(web)", "root_row(kept, rank)", "determinant_by_sizes(kept, rank, shift)",
        "multiplicity(kept, rank, number)", "product_by_sizes(kept, rank, steps)",
    ],
    "levels": [
        "pures(web, rank)", "pure_basis(web, rank)", "pure_row(numbers, rank)", "pure_part(kept, rank, reading)",
        "parts(kept, rank, reading)", "core(kept, rank, reading, level)", "level_of(kept, rank, reading)",
    ],
    "readback": [
        "back_row(numbers, rank, steps)", "read_back(kept, rank, steps, reading)",
        "is_image(kept, rank, steps, reading)", "is_blind(kept, rank, steps, reading)",
        "seen_from(kept, rank, steps, reading)",
    ],
    "closed": [
        "closed_total(numbers, sizes, rank, word)", "sizes_beneath(numbers, rank, above)",
        "sizes_by_totals(numbers, rank, totals, *, upward=True)",
    ],
    "living": [
        "alive(numbers, start, rank)", "pures_by_sizes(numbers, sizes)", "forbidden(numbers, sizes)",
        "late_sum(numbers, sizes)", "norm(web, weights, rank, reading)",
    ],
    "rules": ["peaks(kept, rank, x, other)", "tokens(kept, rank, x, other)", "rule_count(kept, rank)"],
    "fillings": [
        "check_filling(numbers, filling)", "fillings_of(numbers, word, rank, *, limit=2000)",
        "filling_count(numbers, word, rank, many)",
    ],
    "treating": [
        "treat(rule, place, word, walk, *, backwards=False)", "state_of(rule, place, word, walk)",
        "treat_one(rule, state, at)", "untreat(rule, place, filling, walk)",
    ],
    "corners": [
        "grid(rule, place, walk, steps)", "corner_ranks(filling)",
        "corner_many(numbers, start, steps, ups, downs, high)",
    ],
    "turning": [
        "turn_token(numbers, strands, rank, token)", "turn_peak(peak)", "may_turn(kept, rank, g, f)",
        "is_even_handed(rule, strands)", "even_rule(kept, strands)", "turned_filling(numbers, strands, filling)",
        "is_own_turn(numbers, strands, filling)", "own_turns(numbers, strands, start, steps)",
    ],
    "leading": [
        "lead(rule, other_rule, place, other_place, walk, steps)", "lead_word(rule, place, word, walk, other)",
    ],
    "needs": [
        "need(kept)", "may_end(kept)", "reflected(kept)", "reflected_to(kept, top)",
        "next_fits(kept, ups, downs=None)",
    ],
    "writings": [
        "writings(kept, *, limit=300)", "writing_many(kept, *, limit=300)", "grown_by(kept, writing)",
        "fewest_columns(kept)", "most_columns(kept)", "column_room(kept)",
    ],
    "downsides": [
        "downs_of(kept, ups, place, *, limit=300)", "downs_many(kept, ups)", "grown_with(kept, ups, rows)",
    ],
    "futures": [
        "two_futures(kept)", "first_parting(one, other)", "agree_on(one, other, rank, words)",
        "floor_of_size(numbers, strands, start, steps)", "size_ends(kept)", "futures_many(kept, ranks, *, limit=300)",
    ],
    "systems": [
        "ways_table(web, rank, steps, *, side='ups')", "systems_of(web, rank, lot, steps, *, side='ups', limit=500)",
        "sign_of(system)", "signed_sum(web, rank, lot, steps, ends, *, side='ups')",
        "square_sum(kept, rank, lot, steps)", "odd_systems(kept, rank, steps)",
    ],
    "matches": [
        "match_up(web, rank, *, side='ups')", "match_down(web, rank, *, side='ups')",
        "match_size(web, rank, *, side='ups')",
    ],
    "gates": [
        "ways_apart(web, rank, lot, steps, *, side='ups')", "gate(web, rank, lot, steps, *, side='ups')",
        "reached(web, rank, lot, steps, *, side='ups')", "is_gate(web, rank, lot, steps, places, *, side='ups')",
    ],
    "lotsapart": [
        "comes_before(web, place, other, *, side='ups')", "is_apart(web, lot, *, side='ups')",
        "is_layered(web, lot, many, *, side='ups')", "parting_rows(web, *, top=None, side='ups')",
        "parting_ways(kept, *, top=None, side='ups')", "greatest_apart(web, *, top=None, side='ups')",
        "most_layered(kept, many, top)",
    ],
    "ends": [
        "is_one_to_one(web, rank, *, side='ups')", "reaches_all(web, rank, *, side='ups')",
        "ends_at(kept, weights, rank)", "layer_bound(web, many, *, side='ups')", "level_bound(kept, weights, many)",
        "turning_rank(web, top)",
    ],
    "shares": ["total_of(shares)"],
    "mixtures": ["split_shares(one, other, steps)", "product_growth(one, other)", "coin(r, s, steps, first)"],
    "meeting": [
        "mass(growth, places)", "meets(growth, places, *, times=1)", "met_always(growth, places)",
        "missing_way(growth, places)", "above_of(growth, rank, lot)", "beneath_of(growth, rank, lot)",
    ],
    "spreads": [
        "mean(growth, rank, reading)", "variance(growth, rank, reading)", "mean_back(growth, rank, reading, steps)",
        "variance_back(growth, rank, reading, steps)", "ratio(growth, rank, steps, level)", "slowest(kept, rank)",
        "two_levels(growth, rank, reading)", "distance(growth, place, steps)",
        "likeness(growth, place, other, steps)",
    ],
    "partings": ["fits(web, parting)", "unfair_pair(web, parting)", "is_fair(web, parting)", "coarsest(web, parting)"],
    "folding": [
        "folded(web, parting)", "folded_kept(kept, parting)", "lot_sums(parting, rank, reading)",
        "folded_weights(web, parting, weights)", "lot_keeps(web, parting, rank, q, r)",
    ],
    "symmetries": [
        "is_symmetry(web, symmetry)", "group_of(symmetries, *, limit=200)", "orbits(symmetries, sizes)",
        "turned_total(kept, symmetry, rank, word)", "turned_by_fixed(numbers, fixed, rank, word)",
        "orbit_sizes(fixed_rows)", "symmetries_of(web, *, limit=200)",
    ],
    "flat": [
        "flat_rows(web)", "reflected_parting(kept, parting)", "product_parting(one, other, parting, second)",
    ],
    "trials": ["tried(desk, deeds)"],
    "listings": [
        "line_of(kept, rank)", "listing(desk)", "table_text(table)", "words_text(kept, rank, words)",
    ],
}

CLASSES = {
    ("webs", "Web"): [
        "__init__(self, ups, *, downs=None, sizes=None)", "__getitem__(self, at)", "__len__(self)", "__iter__(self)",
        "__eq__(self, other)", "__add__(self, other)", "__mul__(self, other)", "__invert__(self)",
        "__rshift__(self, other)", "up_row(self, rank, place)", "down_row(self, rank, place)",
        "is_fresh(self, rank, place)", "cut(self, rank)", "grown(self, ups, downs=None)", "empty_rank(self)",
        "shapes(cls, top)", "subsets(cls, many)", "spaces(cls, many)", "words(cls, top)", "tree(cls, children)",
        "top(self)", "is_even(self)", "is_simple(self)",
    ],
    ("numbers", "Numbers"): [
        "__init__(self, pairs, *, tail=(1, 1))", "__eq__(self, other)", "__getitem__(self, at)",
        "steady(cls, q, r)", "falling(cls, many)", "is_positive(self)", "is_plain(self)", "gain(self, start, steps)",
        "gains(self, start, steps)", "swaps(self, start, steps)", "val(self, start, rank, word)",
        "changed(self, rank, pair)", "moved(self, many)", "raised(self, many, pair=(1, 1))",
        "dead_pair(self, rank)", "lively_to(self, rank)",
    ],
    ("judging", "Judged"): ["allows(self, q, r)"],
    ("kept", "Kept"): [
        "__init__(self, web, numbers)", "__eq__(self, other)", "top(self)", "lively(self)", "below(self, rank)",
        "above(self, rank)", "count(self, place, word, other)", "pair_at(self, rank)", "cut(self, rank)",
        "grown(self, ups, downs=None)", "exchanged(self)", "beside(self, other)",
    ],
    ("unseen", "OneTable"): [
        "__init__(self, numbers, rank, above)", "size(self)", "down_up(self, steps)", "up_down(self, steps)",
        "count(self, place, word, other)",
    ],
    ("rules", "Rule"): [
        "__init__(self, kept)", "token_numbers(self, rank, x, other)", "match(self, rank, x, other)",
        "token_of(self, rank, x, other, peak)", "peak_of(self, rank, x, other, token)",
    ],
    ("rules", "ShiftRule"): ["__init__(self, kept, shifts)", "token_numbers(self, rank, x, other)"],
    ("rules", "OwnRule"): ["__init__(self, kept, matches)", "token_numbers(self, rank, x, other)"],
    ("fillings", "Filling"): [
        "__init__(self, word, rank, entries)", "many_marks(self)", "marks(self)", "left(self)",
        "meeting(self, g, j)", "rank_at(self, ups, downs)", "__contains__(self, pair)", "__len__(self)",
        "__iter__(self)", "__eq__(self, other)",
    ],
    ("treating", "Treated"): [],
    ("turning", "EvenRule"): ["__init__(self, kept, strands)", "token_numbers(self, rank, x, other)"],
    ("shares", "Share"): [
        "__init__(self, part, whole=1)", "of(part, whole)", "__add__(self, other)", "__radd__(self, other)",
        "__sub__(self, other)", "__rsub__(self, other)", "__mul__(self, other)", "__rmul__(self, other)",
        "__neg__(self)", "__eq__(self, other)", "__str__(self)", "over(self, other)", "at_least(self, other)",
        "is_nought(self)",
    ],
    ("growth", "Growth"): [
        "__init__(self, kept, place)", "__call__(self, place)", "origin_rank(self)", "ahead(self, place)",
        "back(self, place)", "share(self, place)", "shares(self, rank)", "step_up(self, place)",
        "step_down(self, place)", "chance(self, place, word, other)", "chances(self, place, word)",
        "drawn_way(self, row)",
    ],
    ("partings", "Parting"): [
        "__init__(self, rows)", "__len__(self)", "__eq__(self, other)", "single(cls, sizes)", "flat(cls, sizes)",
        "lots(self, rank)", "lot_of(self, rank, place)", "lot_sizes(self)", "within(self, other)",
        "joined(self, other)",
    ],
    ("symmetries", "Symmetry"): [
        "__init__(self, rows)", "__eq__(self, other)", "still(cls, sizes)", "image(self, rank, place)",
        "then(self, other)", "undone(self)", "fixed(self, rank)", "fixed_row(self)", "order(self)",
    ],
    ("desks", "Desk"): [
        "__init__(self, web, numbers=None, *, chosen=0)", "held(self)", "stored(self)", "now(self)", "parting(self)",
        "top(self)", "size_row(self)", "standing(self)", "chosen(self)", "chosen(self, value)", "choose(self, rank)",
        "tell(self, ups, downs=None)", "reflect(self)", "lay(self, number)", "end(self)", "renumber(self, rank, pair)",
        "merge(self, rows)", "split(self)", "undo(self, many=1)", "count(self, place, word, other)",
        "total(self, word, rank=None)", "sizes_ahead(self, many)", "shares(self, place)", "lots(self)",
        "gate_size(self, rank, other)", "apart(self, many=1)", "forget(self, rank)", "told(self, **more)",
        "news_of(self, number)", "deeds(self)", "same_as(self, other)",
    ],
    ("trials", "Trial"): [
        "__init__(self, desk)", "ended(self)", "__enter__(self)", "__exit__(self, kind, value, trace)",
    ],
}

PROPERTIES = {
    ("webs", "Web"): ["top", "is_even", "is_simple"],
    ("numbers", "Numbers"): ["is_positive", "is_plain"],
    ("kept", "Kept"): ["top", "lively"],
    ("fillings", "Filling"): ["many_marks"],
    ("growth", "Growth"): ["origin_rank"],
    ("desks", "Desk"): ["held", "stored", "now", "parting", "top", "size_row", "standing", "chosen"],
    ("trials", "Trial"): ["ended"],
}

SINGLE = {
    ("webs", "Web"): (classmethod, ["shapes", "subsets", "spaces", "words", "tree"]),
    ("numbers", "Numbers"): (classmethod, ["steady", "falling"]),
    ("shares", "Share"): (staticmethod, ["of"]),
    ("partings", "Parting"): (classmethod, ["single", "flat"]),
    ("symmetries", "Symmetry"): (classmethod, ["still"]),
}

GENERATORS = {
    "walks": "walks_of", "fillings": "fillings_of", "writings": "writings", "downsides": "downs_of",
    "systems": "systems_of",
}


def told(node):
    """A function as the interface writes it."""
    return f"{node.name}({ast.unparse(node.args)})"


def parsed(name):
    return ast.parse((PACKAGE / f"{name}.py").read_text(encoding="utf-8")).body


class InterfaceTest(unittest.TestCase):
    def test_functions(self):
        for name, rows in FUNCTIONS.items():
            found = [told(node) for node in parsed(name) if isinstance(node, ast.FunctionDef)]
            for row in rows:
                self.assertIn(row, found, msg=name)

    def test_classes(self):
        for (name, title), rows in CLASSES.items():
            nodes = [node for node in parsed(name) if isinstance(node, ast.ClassDef) and node.name == title]
            self.assertEqual(len(nodes), 1, msg=title)
            found = [told(node) for node in nodes[0].body if isinstance(node, ast.FunctionDef)]
            for row in rows:
                self.assertIn(row, found, msg=title)

    def test_properties(self):
        for (name, title), rows in PROPERTIES.items():
            owner = getattr(importlib.import_module(f"upsanddowns.{name}"), title)
            for row in rows:
                self.assertIsInstance(vars(owner)[row], property)

    def test_methods_of_classes(self):
        for (name, title), (kind, rows) in SINGLE.items():
            owner = getattr(importlib.import_module(f"upsanddowns.{name}"), title)
            for row in rows:
                self.assertIsInstance(vars(owner)[row], kind)

    def test_generators(self):
        for name, title in GENERATORS.items():
            found = getattr(importlib.import_module(f"upsanddowns.{name}"), title)
            self.assertTrue(inspect.isgeneratorfunction(found))


if __name__ == "__main__":
    unittest.main()
