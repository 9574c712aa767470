"""Partings: the places of each rank split into lots, and whether the lots have equal strands."""

from upsanddowns.checks import check_place_at, check_rank, check_size_row
from upsanddowns.errors import BadParting
from upsanddowns.forms import first_unlike, is_int_row, is_order, is_row
from upsanddowns.tables import columns_of


def is_lot(one):
    """True for a list or tuple of at least one integer."""
    return is_row(one) and len(one) > 0 and is_int_row(one, len(one))


def is_parted(one):
    """True for lots that hold just the integers 0 to some number, each once."""
    if not is_row(one) or not all([is_lot(lot) for lot in one]):
        return False
    places = [place for lot in one for place in lot]
    return is_order(places, len(places))


def lot_numbers(lots):
    """For each place the number of its lot."""
    told = {place: number for number, lot in enumerate(lots) for place in lot}
    return tuple([told[place] for place in range(len(told))])


def lots_by(marks):
    """The lots of the places that have one mark each."""
    found = {}
    for place, mark in enumerate(marks):
        found.setdefault(mark, []).append(place)
    return list(found.values())


def with_joined(marks, lot):
    """The marks where all places that have a mark of the lot's places get one of these marks."""
    met = {marks[place]: True for place in lot}
    one = marks[lot[0]]
    return [one if mark in met else mark for mark in marks]


def joined_lots(marks, lots):
    """The lots of the smallest parting within which lie that of the marks and that of the lots."""
    found = marks
    for lot in lots:
        found = with_joined(found, lot)
    return lots_by(found)


def check_same_places(sizes, others):
    """Raises BadParting for the least rank that only one has or that has not one size in both."""
    rank = first_unlike(sizes, others)
    if rank is not None:
        raise BadParting(rank)


class Parting:
    """The places of each rank split into lots. It never changes."""

    def __init__(self, rows):
        if not is_row(rows):
            raise BadParting(-1)
        for rank, row in enumerate(rows):
            if not is_parted(row):
                raise BadParting(rank)
        self.rows = tuple([tuple(sorted([tuple(sorted(lot)) for lot in row])) for row in rows])
        self.numbers_of_lots = tuple([lot_numbers(lots) for lots in self.rows])
        self.sizes = tuple([len(row) for row in self.numbers_of_lots])

    @classmethod
    def single(cls, sizes):
        """The parting into single places."""
        return cls([[[place] for place in range(size)] for size in check_size_row(sizes)])

    @classmethod
    def flat(cls, sizes):
        """The parting with one lot for each rank that has places."""
        return cls([[list(range(size))] if size > 0 else [] for size in check_size_row(sizes)])

    def __len__(self):
        return len(self.rows)

    def __eq__(self, other):
        return isinstance(other, Parting) and self.rows == other.rows

    def lots(self, rank):
        """The lots of the rank."""
        check_rank(self.sizes, rank)
        return self.rows[rank]

    def lot_of(self, rank, place):
        """The number of the lot with the place."""
        check_place_at(self.sizes, rank, place)
        return self.numbers_of_lots[rank][place]

    def lot_sizes(self):
        """How many lots each rank has."""
        return tuple([len(lots) for lots in self.rows])

    def within(self, other):
        """True if each lot is part of a lot of the other parting."""
        check_same_places(self.sizes, other.sizes)
        return all([
            row[place] == row[lot[0]]
            for lots, row in zip(self.rows, other.numbers_of_lots)
            for lot in lots
            for place in lot
        ])

    def joined(self, other):
        """The parting with the smallest lots within which lie this one and the other one."""
        check_same_places(self.sizes, other.sizes)
        return Parting([joined_lots(marks, lots) for marks, lots in zip(self.numbers_of_lots, other.rows)])


def fits(web, parting):
    """The parting itself, if it parts the places of the web."""
    check_same_places(parting.sizes, web.sizes)
    return parting


def lot_strands(strands, lots):
    """The strands of one place into the lots of another rank, lot by lot."""
    return tuple([sum([strands[place] for place in lot]) for lot in lots])


def ups_into(web, parting, rank):
    """For each place of the rank its up strands into the lots of the next rank."""
    if rank == web.top:
        return [()] * web.sizes[rank]
    return [lot_strands(row, parting.rows[rank + 1]) for row in web.ups[rank]]


def downs_into(web, parting, rank):
    """For each place of the rank its down strands into the lots of the rank beneath."""
    if rank == 0:
        return [()] * web.sizes[rank]
    columns = columns_of(web.downs[rank - 1], web.sizes[rank])
    return [lot_strands(column, parting.rows[rank - 1]) for column in columns]


def unfair_at(web, parting, rank):
    """The first places of one lot of the rank with unlike strands, as (n, x, y, side), or None."""
    ups = ups_into(web, parting, rank)
    downs = downs_into(web, parting, rank)
    row = parting.numbers_of_lots[rank]
    for place, number in enumerate(row):
        for other in range(place + 1, len(row)):
            if row[other] == number and ups[other] != ups[place]:
                return (rank, place, other, "ups")
            if row[other] == number and downs[other] != downs[place]:
                return (rank, place, other, "downs")
    return None


def unfair_pair(web, parting):
    """The first places of one lot with unlike strands, as (n, x, y, side), None if there are none."""
    fits(web, parting)
    for rank in range(web.top + 1):
        found = unfair_at(web, parting, rank)
        if found is not None:
            return found
    return None


def is_fair(web, parting):
    """True if the places of each lot have equal strands into the lots next to it."""
    return unfair_pair(web, parting) is None


def parted_more(web, parting):
    """The parting in which places of a lot stay together if they have equal strands into the lots."""
    rows = []
    for rank in range(web.top + 1):
        marks = list(zip(
            parting.numbers_of_lots[rank], ups_into(web, parting, rank), downs_into(web, parting, rank),
        ))
        rows.append(lots_by(marks))
    return Parting(rows)


def coarsest(web, parting):
    """The coarsest fair parting within this one."""
    found = fits(web, parting)
    more = parted_more(web, found)
    while more.rows != found.rows:
        found = more
        more = parted_more(web, found)
    return found
