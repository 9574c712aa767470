"""What several tests need: webs of many kinds, walks counted the slow way, and checks of errors."""

import random
from fractions import Fraction
from itertools import combinations
from itertools import product as all_of

from upsanddowns.errors import BadForm, RanksError, TooMany, UnmetNeed
from upsanddowns.growth import Growth
from upsanddowns.joins import thick
from upsanddowns.kept import Kept
from upsanddowns.makers import chain
from upsanddowns.numbers import Numbers
from upsanddowns.own import thick_numbers
from upsanddowns.partings import Parting, coarsest
from upsanddowns.rules import OwnRule, Rule, ShiftRule
from upsanddowns.symmetries import orbits, symmetries_of
from upsanddowns.webs import Web


def words_to(length):
    """All words of at most so many letters."""
    return ["".join(letters) for many in range(length + 1) for letters in all_of("ud", repeat=many)]


def random_table(dice, rows, columns, most):
    return [[dice.choice([0, dice.randint(0, most)]) for _ in range(columns)] for _ in range(rows)]


def random_web(seed, sizes, most=3):
    """A web with any strands, unlike ones as a rule."""
    dice = random.Random(seed)
    pairs = list(zip(sizes, sizes[1:]))
    ups = [random_table(dice, one, two, most) for one, two in pairs]
    downs = [random_table(dice, one, two, most) for one, two in pairs]
    return Web(ups, downs=downs, sizes=sizes)


def random_even(seed, sizes, most=3):
    dice = random.Random(seed)
    return Web([random_table(dice, one, two, most) for one, two in zip(sizes, sizes[1:])], sizes=sizes)


def any_webs():
    """Webs that need not keep any numbers, with empty ranks and without places among them."""
    return [
        Web([], sizes=[0]),
        Web([], sizes=[3]),
        Web([[], []], sizes=[0, 0, 0]),
        random_web(1, [1, 2, 3]),
        random_web(2, [2, 3, 2, 1]),
        random_web(3, [0, 2, 0, 2, 2]),
        random_web(4, [3, 1, 3, 2]),
        random_even(5, [2, 2, 3]),
        random_even(6, [1, 3, 2, 2]),
        Web.shapes(3),
        Web.subsets(3),
    ]


def reflect(kept):
    """The kept web with one rank more that copies the two ranks at its top."""
    web, top = kept.web, kept.top
    q, r = kept.pair_at(top)
    size, lower = web.sizes[top], web.sizes[top - 1] if top > 0 else 0
    unit = [[int(x == y) for y in range(size)] for x in range(size)]
    ups = [q * [web.downs[top - 1][z][x] for z in range(lower)] + r * unit[x] for x in range(size)]
    downs = [q * [web.ups[top - 1][z][x] for z in range(lower)] + r * unit[x] for x in range(size)]
    length = q * lower + r * size
    more = Web(
        list(web.ups) + [ups], downs=list(web.downs) + [downs], sizes=list(web.sizes) + [length]
    )
    return Kept(more, kept.numbers)


def reflected(kept, times):
    for _ in range(times):
        kept = reflect(kept)
    return kept


def renumbered(web, seed):
    """The web with the places of each rank in another order."""
    dice = random.Random(seed)
    orders = [dice.sample(range(size), size) for size in web.sizes]
    ups, downs = [[
        [[table[x][y] for y in orders[at + 1]] for x in orders[at]] for at, table in enumerate(tables)
    ] for tables in (web.ups, web.downs)]
    return Web(ups, downs=downs, sizes=web.sizes)


MIXED = Numbers([(1, 2), (2, 1), (1, 1), (2, 0), (1, 3)])


def even_kept():
    """Even kept webs."""
    one = Numbers.steady(1, 1)
    return [
        Kept(Web.shapes(5), one),
        Kept(Web.words(5), one),
        Kept(Web.subsets(4), Numbers.falling(4)),
        Kept(Web.subsets(3).empty_rank(), Numbers.falling(3)),
        Kept(Web.spaces(3), Numbers([(1, 2 ** (3 - n) - 2 ** n) for n in range(3)])),
        Kept(Web.tree([2, 1, 3]), Numbers([(0, 2), (0, 1), (0, 3)])),
        Kept(Web.shapes(3) * Web.shapes(3), Numbers.steady(1, 2)),
        Kept(Web.shapes(3) >> 2, Numbers.steady(1, 1).raised(2, (4, -3))),
        reflected(Kept(Web([], sizes=[2]), Numbers([(5, 1), (2, 1)], tail=(1, 1))), 3),
        Kept(Web([], sizes=[2]), MIXED),
        Kept(Web([], sizes=[0]), MIXED),
    ]


def unlike_kept():
    """Kept webs whose up strands and down strands differ."""
    lively = Numbers([(1, 3), (2, -1), (0, 2), (3, 1), (1, 2)])
    shapes = Kept(Web.shapes(4), Numbers.steady(1, 1))
    rows = [(2, 1), (1, 2), (3, 2), (6, 1)]
    found = [
        Kept(chain(lively, 0, 4), lively),
        Kept(chain(lively, 0, 4) + chain(lively, 2, 4) + chain(lively, 3, 4), lively),
        Kept(thick(shapes.web, rows), thick_numbers(shapes, rows)),
        reflected(Kept(chain(MIXED, 0, 2), MIXED), 2),
        Kept(chain(Numbers.falling(3), 0, 5), Numbers.falling(3)),
    ] + unbalanced_kept()
    found.append(Kept(renumbered(found[2].web, 7), found[2].numbers))
    found.append(Kept(renumbered(found[3].web, 8), found[3].numbers))
    found.append(found[2].exchanged())
    return found


def unbalanced_kept():
    """Kept webs without weights: strands of one sort alone, and rings that differ by direction."""
    numbers = Numbers([(1, 3), (1, 1), (2, 1)])
    alone = Web([[[1, 1]], [[1, 0], [0, 1]]], downs=[[[3, 0]], [[4, 0], [3, 1]]])
    ring = Kept(Web.shapes(2), Numbers([(1, 1), (1, 1), (5, 2)])).grown([[1, 2], [2, 1]], [[1, 3], [3, 1]])
    less = Web([[[1, 1]], [[1, 0], [0, 1]]], downs=[[[2, 2]], [[1, 2], [2, 1]]])
    return [
        Kept(alone, numbers), reflected(Kept(alone, numbers), 1), ring,
        Kept(less, Numbers([(1, 4), (1, -1)], tail=(2, 7))), unbalanced_falling(),
    ]


def unbalanced_falling():
    """A web without weights that keeps falling numbers at all of their ranks, and a rank above."""
    ones = [[int(x == y) for y in range(3)] for x in range(3)]
    web = Web(
        [[[1, 1, 1]], ones, [[1], [0], [0]], [[0, 0]]],
        downs=[[[3, 0, 0]], [[4, 0, 0], [3, 1, 0], [3, 0, 1]], [[3], [3], [3]], [[0, 0]]],
    )
    return Kept(web, Numbers.falling(3))


def falling_kept():
    """Webs that keep falling numbers at the ranks 0 to M, with M."""
    found = [(Kept(Web.subsets(m).empty_rank(), Numbers.falling(m)), m) for m in range(5)]
    four = Numbers.falling(4)
    webs = Web.subsets(4).empty_rank() + chain(four, 1, 5) + chain(four, 2, 5)
    return found + [(Kept(webs, four), 4), (unbalanced_falling(), 3)]


def all_kept():
    return even_kept() + unlike_kept()


def lively_kept():
    return [kept for kept in all_kept() if kept.lively]


def rule_kept():
    """Kept webs in which rules can be made."""
    return [kept for kept in all_kept() if all(kept.pair_at(n)[1] >= 0 for n in range(kept.top))]


def some_rules(kept, seed):
    """Rules of each kind but the even one."""
    dice = random.Random(seed)
    shifts = [[dice.randint(0, 9) for _ in range(dice.randint(0, 3))] for _ in range(kept.top)]
    matches = []
    for n in range(kept.top):
        for x, other in pairs_at(kept, n):
            many = kept.above(n)[x][other]
            if dice.random() < 0.6:
                matches.append([n, x, other, dice.sample(range(many), many)])
    dice.shuffle(matches)
    return [Rule(kept), ShiftRule(kept, shifts), OwnRule(kept, matches)]


def small_kept():
    """Kept webs with rules and few walks, even and unlike ones, with empty ranks and labels among them."""
    one = Numbers.steady(1, 1)
    return [
        Kept(Web.shapes(3), one),
        Kept(Web.words(4), one),
        Kept(Web.subsets(3).cut(2), Numbers.falling(3)),
        Kept(Web.tree([2, 1, 2]), Numbers([(0, 2), (0, 1), (0, 2)])),
        Kept(Web.shapes(2) >> 1, one),
        Kept(Web([[[2]], [[1, 2]]], sizes=[1, 1, 2]), Numbers([(1, 4), (1, 1)])),
        unbalanced_kept()[0],
        reflected(Kept(Web([[[1]]]), Numbers([(1, 1), (3, 0), (0, 2)])), 2),
        Kept(Web([[[1]], [[1]]], downs=[[[2]], [[2]]]), Numbers([(3, 2), (1, 0)])),
        Kept(Web([[[2]], [[2]], [[1, 1]]], downs=[[[1]], [[2]], [[2, 0]]]), Numbers([(3, 2), (1, 2), (0, 2)])),
    ]


def pairs_at(kept, rank):
    return [(x, other) for x in range(kept.sizes[rank]) for other in range(kept.sizes[rank])]


def closed_words(length):
    """All words of rise 0 of at most so many letters."""
    return [word for word in words_to(length) if word.count("u") == word.count("d")]


def turning(steps, upward=True):
    return "u" * steps + "d" * steps if upward else "d" * steps + "u" * steps


def slow_determinant(table):
    """The determinant by the first row."""
    if not table:
        return 1
    return sum(
        (-1) ** at * entry * slow_determinant([list(row[:at]) + list(row[at + 1:]) for row in table[1:]])
        for at, entry in enumerate(table[0])
        if entry != 0
    )


def slow_rank(table):
    """The rank by elimination with fractions."""
    rows = [[Fraction(entry) for entry in row] for row in table]
    rank = 0
    for column in range(len(rows[0]) if rows else 0):
        found = [at for at in range(rank, len(rows)) if rows[at][column] != 0]
        if found:
            rows[rank], rows[found[0]] = rows[found[0]], rows[rank]
            for at in range(rank + 1, len(rows)):
                scale = rows[at][column] / rows[rank][column]
                rows[at] = [one - scale * two for one, two in zip(rows[at], rows[rank])]
            rank += 1
    return rank


def powers(table, times):
    """The table times itself."""
    found = unit(len(table))
    for _ in range(times):
        found = mult(found, table)
    return found


def with_diagonal(table, scale, shift):
    """Scale times the table with shift added on the diagonal."""
    return plus(tuple(tuple(scale * entry for entry in row) for row in table), unit(len(table), shift))


def readings_of(seed, size):
    """Some readings of a rank with so many places."""
    dice = random.Random(seed)
    found = [tuple(int(x == y) for y in range(size)) for x in range(size)]
    found += [tuple(dice.randint(-9, 9) for _ in range(size)) for _ in range(2)]
    return found + [(0,) * size]


def lift(web, rank, row, steps):
    """The row of integers or fractions raised so many times."""
    for at in range(rank, rank + steps):
        row = [sum(web.ups[at][x][y] * row[x] for x in range(web[at])) for y in range(web[at + 1])]
    return list(row)


def sink(web, rank, row, steps):
    """The row lowered so many times."""
    for at in range(rank - 1, rank - steps - 1, -1):
        row = [sum(web.downs[at][x][y] * row[y] for y in range(web[at + 1])) for x in range(web[at])]
    return list(row)


def places_at(web, rank):
    return [(rank, x) for x in range(web.sizes[rank])]


def places_of(web):
    return [place for rank in range(web.top + 1) for place in places_at(web, rank)]


def slow_walks(web, place, word):
    """All walks by the word, one step behind the other; the word must not climb above the top."""
    if word == "":
        return [()]
    rank, x = place
    found = []
    if word[0] == "u":
        steps = [((rank + 1, y), web.ups[rank][x][y]) for y in range(web.sizes[rank + 1])]
    elif rank == 0:
        steps = []
    else:
        steps = [((rank - 1, z), web.downs[rank - 1][z][x]) for z in range(web.sizes[rank - 1])]
    for other, many in steps:
        for strand in range(many):
            for rest in slow_walks(web, other, word[1:]):
                found.append(((word[0], strand, other[1]),) + rest)
    return found


def heights_of(rank, word):
    row = [rank]
    for letter in word:
        row.append(row[-1] + (1 if letter == "u" else -1))
    return row


def stays(web, rank, word):
    row = heights_of(rank, word)
    return min(row) >= 0 and max(row) <= web.top


def table_of(web, rank, word):
    """The counts by a word that stays in the ranks, computed table by table with whole tables."""
    size = web.sizes[rank]
    table = [[int(x == y) for y in range(size)] for x in range(size)]
    for letter in word:
        if letter == "u":
            step = [list(row) for row in web.ups[rank]]
            width = web.sizes[rank + 1]
            rank += 1
        else:
            width = web.sizes[rank - 1]
            step = [[web.downs[rank - 1][z][x] for z in range(width)] for x in range(web.sizes[rank])]
            rank -= 1
        table = [[sum(row[y] * step[y][z] for y in range(len(step))) for z in range(width)] for row in table]
    return tuple(tuple(row) for row in table)


def sided(web, side):
    """The web whose up-ways are those of the side."""
    return web if side == "ups" else ~web


SIDES = ("ups", "downs")


def slow_ways(web, place, steps, side="ups"):
    """All up-ways of so many steps of the side, each a tuple of steps (strand, place)."""
    return [
        tuple((strand, number) for _, strand, number in walk)
        for walk in slow_walks(sided(web, side), place, "u" * steps)
    ]


def passed(rank, start, way):
    """The places of a way from (rank, start), both ends included."""
    return [(rank, start)] + [(rank + at + 1, step[1]) for at, step in enumerate(way)]


def higher_places(web, place, side="ups"):
    """All places to which up-ways of at least one step lead."""
    found, here = set(), {place}
    for rank in range(place[0], web.top):
        table = sided(web, side).ups[rank]
        here = {(rank + 1, y) for _, x in here for y in range(web[rank + 1]) if table[x][y]}
        found |= here
    return found


def lots_of(size, most):
    """All lots of at most so many of the numbers below size, ascending."""
    return [lot for many in range(min(size, most) + 1) for lot in combinations(range(size), many)]


def told_otherwise(lot, seed):
    """The lot in another order, with some places told twice."""
    dice = random.Random(seed)
    found = list(lot) + [one for one in lot if dice.random() < 0.5]
    dice.shuffle(found)
    return found


def mult(one, other):
    width = len(other[0]) if other else 0
    return tuple(tuple(sum(a * row[z] for a, row in zip(line, other)) for z in range(width)) for line in one)


def plus(one, other, scale=1):
    return tuple(tuple(a + scale * b for a, b in zip(x, y)) for x, y in zip(one, other))


def unit(size, value=1):
    return tuple(tuple(value if x == y else 0 for y in range(size)) for x in range(size))


def all_tuples(value):
    """True if there is no list, dict or bool at any depth."""
    if isinstance(value, tuple):
        return all(all_tuples(one) for one in value)
    return not isinstance(value, (list, dict, set, bool))


def fraction(pair):
    row, den = pair
    return [Fraction(entry, den) for entry in row]


class Errors:
    """Mixed into a test case: an error, its attributes, and where it stands."""

    def refused(self, error, told, call, *args, **more):
        with self.assertRaises(RanksError) as caught:
            call(*args, **more)
        self.assertIs(type(caught.exception), error, msg=repr(caught.exception))
        self.assertEqual(vars(caught.exception), told)
        self.assertTrue(isinstance(caught.exception, (BadForm, UnmetNeed)))
        return caught.exception


def origins_of(kept):
    """All places from which growth is told."""
    return [
        (n, x) for n, x in places_of(kept.web)
        if kept.web.is_fresh(n, x) and all(kept.numbers.gain(n, k) >= 1 for k in range(1, kept.top - n + 1))
    ]


def growing_kept():
    """Kept webs with origins at several ranks, and with places from which no way leads back to an origin."""
    one, more = Numbers.steady(1, 1), Numbers([(2, 1), (1, 2), (2, 1), (1, 3)])
    late = Web.shapes(4) + chain(one, 1, 4) + chain(one, 2, 4)
    return all_kept() + [
        Kept(renumbered(late, 5), one),
        Kept(renumbered(chain(more, 0, 4) + chain(more, 1, 4) + chain(more, 1, 4) + chain(more, 3, 4), 6), more),
        reflected(Kept(Web([[[0, 1]]], sizes=[1, 2]), Numbers([(0, 1), (1, 1), (0, 2)])), 2),
    ]


def growths_of(kepts):
    """Growth from each origin of each of these kept webs, two of each rank at most."""
    found = []
    for kept in kepts:
        for n in range(kept.top + 1):
            found += [Growth(kept, place) for place in origins_of(kept) if place[0] == n][:2]
    return found


def value(share):
    """A Share as a Fraction."""
    return Fraction(share.part, share.whole)


def splits_of(size):
    """All ways to split the numbers below size into lots."""
    if size == 0:
        return [[]]
    found = []
    for lots in splits_of(size - 1):
        found.append(lots + [[size - 1]])
        found += [lots[:at] + [lots[at] + [size - 1]] + lots[at + 1:] for at in range(len(lots))]
    return found


def random_split(dice, size):
    """One way to split the numbers below size into lots, in any order."""
    marks = [dice.randrange(size) for _ in range(size)]
    lots = [[place for place in range(size) if marks[place] == mark] for mark in set(marks)]
    for lot in lots:
        dice.shuffle(lot)
    dice.shuffle(lots)
    return lots


def slow_unfair(web, rows):
    """The first places of one lot with unlike strands, told pair by pair."""
    for n in range(web.top + 1):
        for x in range(web[n]):
            for y in range(x + 1, web[n]):
                if not any(x in lot and y in lot for lot in rows[n]):
                    continue
                for lot in rows[n + 1] if n < web.top else []:
                    if sum(web.ups[n][x][z] for z in lot) != sum(web.ups[n][y][z] for z in lot):
                        return (n, x, y, "ups")
                for lot in rows[n - 1] if n else []:
                    if sum(web.downs[n - 1][z][x] for z in lot) != sum(web.downs[n - 1][z][y] for z in lot):
                        return (n, x, y, "downs")
    return None


def fair_partings(web, seed=1):
    """Some fair partings of the web, unlike ones, the one into single places first."""
    dice = random.Random(seed)
    found = [Parting.single(web.sizes), coarsest(web, Parting.flat(web.sizes))]
    for _ in range(4):
        found.append(coarsest(web, Parting([random_split(dice, size) for size in web.sizes])))
    if sum(web.sizes) <= 40:
        try:
            found.append(orbits(symmetries_of(web, limit=800), web.sizes))
        except TooMany:
            pass
    return [one for at, one in enumerate(found) if one not in found[:at]]
