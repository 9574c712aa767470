"""Symmetries: orders of the places of each rank, the groups they make, and their orbits."""

from math import lcm

from upsanddowns.amounts import check_number
from upsanddowns.checks import check_place_at, check_rank, check_size_row
from upsanddowns.closed import closed_total
from upsanddowns.colouring import place_orders
from upsanddowns.errors import BadReading, BadSymmetry, NoneSuch, TooMany
from upsanddowns.forms import first_unlike, frozen, is_count_row, is_order, is_row
from upsanddowns.normal import normal_terms
from upsanddowns.partings import Parting
from upsanddowns.twosteps import down_up
from upsanddowns.words import check_word, rise


def rings_of(row):
    """The rings of an order: each place with those to which it goes, step by step."""
    seen = {}
    rings = []
    for start in range(len(row)):
        ring = []
        place = start
        while place not in seen:
            seen[place] = True
            ring.append(place)
            place = row[place]
        if len(ring) > 0:
            rings.append(ring)
    return rings


def check_agree(sizes, others):
    """Raises BadSymmetry for the least rank that only one has or that has not one size in both."""
    rank = first_unlike(sizes, others)
    if rank is not None:
        raise BadSymmetry(rank)


def rows_behind(rows, others):
    """The rows of first these orders, then the other ones."""
    return tuple([tuple([line[place] for place in row]) for row, line in zip(rows, others)])


class Symmetry:
    """An order of the places of each rank. It never changes."""

    def __init__(self, rows):
        if not is_row(rows):
            raise BadSymmetry(-1)
        for rank, row in enumerate(rows):
            if not is_row(row) or not is_order(row, len(row)):
                raise BadSymmetry(rank)
        self.rows = frozen(rows)
        self.sizes = tuple([len(row) for row in rows])

    @classmethod
    def still(cls, sizes):
        """The one that moves nothing."""
        return cls([list(range(size)) for size in check_size_row(sizes)])

    def __eq__(self, other):
        return isinstance(other, Symmetry) and self.rows == other.rows

    def image(self, rank, place):
        """The place to which this place of the rank goes."""
        check_place_at(self.sizes, rank, place)
        return self.rows[rank][place]

    def then(self, other):
        """First this one, then the other one."""
        check_agree(self.sizes, other.sizes)
        return Symmetry(rows_behind(self.rows, other.rows))

    def undone(self):
        """The one that leads back."""
        return Symmetry([[row.index(place) for place in range(len(row))] for row in self.rows])

    def fixed(self, rank):
        """The number of places of the rank that stay."""
        check_rank(self.sizes, rank)
        return len([place for place, image in enumerate(self.rows[rank]) if image == place])

    def fixed_row(self):
        """The numbers of places that stay, rank by rank."""
        return tuple([self.fixed(rank) for rank in range(len(self.rows))])

    def order(self):
        """How many times it is done, at least, until nothing is moved."""
        many = 1
        for row in self.rows:
            for ring in rings_of(row):
                many = lcm(many, len(ring))
        return many


def is_symmetry(web, symmetry):
    """True if it agrees with the sizes of the web and keeps its tables."""
    if symmetry.sizes != web.sizes:
        return False
    return all([
        table[one[x]][two[y]] == table[x][y]
        for tables in (web.ups, web.downs)
        for table, one, two in zip(tables, symmetry.rows, symmetry.rows[1:])
        for x in range(len(one))
        for y in range(len(two))
    ])


def check_symmetries(symmetries, sizes):
    """Raises BadSymmetry for the first symmetry that does not agree with the sizes."""
    for symmetry in symmetries:
        check_agree(symmetry.sizes, sizes)


def group_of(symmetries, *, limit=200):
    """All products of these symmetries, ascending."""
    if not is_row(symmetries) or len(symmetries) == 0:
        raise BadSymmetry(-1)
    check_symmetries(symmetries, symmetries[0].sizes)
    check_number("limit", limit, 0)
    queue = [Symmetry.still(symmetries[0].sizes).rows]
    found = {queue[0]: True}
    at = 0
    while at < len(queue) and len(queue) <= limit:
        for symmetry in symmetries:
            more = rows_behind(queue[at], symmetry.rows)
            if more not in found:
                found[more] = True
                queue.append(more)
        at += 1
    if len(queue) > limit:
        raise TooMany(limit)
    return tuple([Symmetry(rows) for rows in sorted(queue)])


def orbits(symmetries, sizes):
    """The parting into the lots of places that the symmetries lead into one another."""
    if not is_row(symmetries):
        raise BadSymmetry(-1)
    found = Parting.single(sizes)
    check_symmetries(symmetries, found.sizes)
    for symmetry in symmetries:
        found = found.joined(Parting([rings_of(row) for row in symmetry.rows]))
    return found


def turned_total(kept, symmetry, rank, word):
    """The told counts of the word from each place of the rank to its image, added up."""
    check_agree(symmetry.sizes, kept.sizes)
    check_rank(kept.sizes, rank)
    check_word(word)
    if rise(word) != 0:
        return 0
    row = symmetry.rows[rank]
    return sum([
        entry * line[image]
        for entry, downs, _ in normal_terms(kept.numbers, word, rank)
        for line, image in zip(down_up(kept, rank, downs), row)
    ])


def turned_by_fixed(numbers, fixed, rank, word):
    """The same sum for a symmetry with so many fixed places, told by numbers and these alone."""
    return closed_total(numbers, fixed, rank, word)


def orbit_sizes(fixed_rows):
    """The numbers of orbits of a group whose members have these numbers of fixed places."""
    if not is_row(fixed_rows) or len(fixed_rows) == 0:
        raise BadReading(-1)
    for at, row in enumerate(fixed_rows):
        if not is_row(row) or not is_count_row(row, len(fixed_rows[0])):
            raise BadReading(at)
    sums = [sum([row[rank] for row in fixed_rows]) for rank in range(len(fixed_rows[0]))]
    for rank, total in enumerate(sums):
        if total % len(fixed_rows) != 0:
            raise NoneSuch(rank)
    return tuple([total // len(fixed_rows) for total in sums])


def symmetries_of(web, *, limit=200):
    """All symmetries of the web, ascending."""
    check_number("limit", limit, 0)
    if sum(web.sizes) > 40:
        raise TooMany(40)
    found = place_orders(web, limit)
    if len(found) > limit:
        raise TooMany(limit)
    return tuple([Symmetry(rows) for rows in sorted(found)])
