"""One table of a rank tells all closed walks from the rank, whatever lies beneath it."""

from upsanddowns.amounts import check_number, is_int
from upsanddowns.checks import check_any_rank, check_q_positive, check_rank, check_seen
from upsanddowns.errors import BadPlace, BadTable, NoneSuch
from upsanddowns.forms import frozen, is_count_table, is_row
from upsanddowns.normal import normal_terms
from upsanddowns.tables import entries_of, is_nought, shifted, table_product, unit_table, zero_table
from upsanddowns.twosteps import up_down_by
from upsanddowns.words import check_word, rise


def divided(table, den, rank):
    """The table divided by den; NoneSuch(rank) if an entry is then no integer or below 0."""
    if any([entry % den != 0 or entry < 0 for entry in entries_of(table)]):
        raise NoneSuch(rank)
    return tuple([tuple([entry // den for entry in row]) for row in table])


def below_from(numbers, rank, table):
    """The table below that follows from the table above of the rank."""
    q, r = numbers[rank]
    rest = shifted(table, 1, -r)
    if rank > 0:
        return divided(rest, q, rank)
    if not is_nought(rest):
        raise NoneSuch(rank)
    return zero_table(len(table))


def down_ups_from(numbers, rank, low):
    """The tables of the walks down and up by 0 to rank steps that follow from the table below."""
    found = [unit_table(len(low))]
    for at in range(rank):
        rest = table_product(shifted(low, 1, -numbers.gain(rank - at, at)), found[at])
        found.append(divided(rest, numbers.swaps(rank - at, at), rank))
    if not is_nought(table_product(shifted(low, 1, -numbers.gain(0, rank)), found[rank])):
        raise NoneSuch(rank)
    return found


class OneTable:
    """What numbers and the table above of one rank tell. It never changes."""

    def __init__(self, numbers, rank, above):
        check_any_rank(rank)
        if not is_row(above) or not is_count_table(above, len(above), len(above)):
            raise BadTable(rank, "ups")
        check_q_positive(numbers, 1, rank + 1)
        self.numbers = numbers
        self.rank = rank
        self.table_above = frozen(above)
        self.table_below = below_from(numbers, rank, self.table_above)
        self.down_ups = tuple(down_ups_from(numbers, rank, self.table_below))

    def size(self):
        """The number of places of the rank."""
        return len(self.table_above)

    def down_up(self, steps):
        """The table of the walks by so many d and as many u."""
        check_number("steps", steps, 0)
        if steps > self.rank:
            return zero_table(self.size())
        return self.down_ups[steps]

    def up_down(self, steps):
        """The table of the walks by so many u and as many d."""
        check_number("steps", steps, 0)
        return up_down_by(self.numbers, self.rank, self.table_below, steps)

    def check_place(self, place):
        """Raises BadPlace if the rank has no place with this number."""
        if not is_int(place) or not 0 <= place < self.size():
            raise BadPlace(self.rank, place)

    def count(self, place, word, other):
        """The told count of the word between two places of the rank."""
        self.check_place(place)
        check_word(word)
        self.check_place(other)
        if rise(word) != 0:
            return 0
        return sum([
            entry * self.down_ups[downs][place][other]
            for entry, downs, _ in normal_terms(self.numbers, word, self.rank)
        ])


def one_table(kept, rank):
    """What the numbers and the table above of this rank of a kept web tell."""
    return OneTable(kept.numbers, rank, kept.above(rank))


def same_words(kept, rank, other, other_rank):
    """True if both ranks are one and have equal tables above and equal pairs up to the rank."""
    check_rank(kept.sizes, rank)
    check_rank(other.sizes, other_rank)
    check_seen(kept.sizes, rank + 1)
    check_seen(other.sizes, other_rank + 1)
    if rank != other_rank or kept.above(rank) != other.above(rank):
        return False
    return all([kept.numbers[at] == other.numbers[at] for at in range(rank + 1)])
