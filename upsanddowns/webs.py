"""Ranked webs: places in ranks, with up strands and down strands between neighbouring ranks."""

from upsanddowns.amounts import check_number
from upsanddowns.checks import check_place_at, check_rank, check_sizes, check_up_to
from upsanddowns.errors import BadNumbers, BadSize, BadTable
from upsanddowns.families import shape_tables, sizes_from, space_tables, subset_tables, tree_tables, word_tables
from upsanddowns.forms import frozen, is_count, is_count_table, is_row, is_row_of
from upsanddowns.joining import beside_sizes, beside_tables, product_sizes, product_tables


def told_sizes(sizes, many):
    """The sizes of so many ranks as a tuple, where they are passed in."""
    if not is_row_of(sizes, many):
        raise BadSize(-1)
    return check_sizes(sizes)


def read_sizes(ups):
    """The sizes as a tuple, where the tables have to tell them."""
    for rank, table in enumerate(ups):
        if not is_row(table):
            raise BadTable(rank, "ups")
    top = len(ups)
    if top == 0 or len(ups[top - 1]) == 0:
        raise BadSize(top)
    if not is_row(ups[top - 1][0]):
        raise BadTable(top - 1, "ups")
    return tuple([len(table) for table in ups] + [len(ups[top - 1][0])])


def checked_tables(tables, sizes, side):
    """The tables as tuples, if they are of the form that the sizes ask for."""
    for rank, table in enumerate(tables):
        if not is_count_table(table, sizes[rank], sizes[rank + 1]):
            raise BadTable(rank, side)
    return tuple([frozen(table) for table in tables])


def row_length(table):
    """The length of the first row of a table, -1 if it does not tell one."""
    if is_row(table) and len(table) > 0 and is_row(table[0]):
        return len(table[0])
    return -1


class Web:
    """A ranked web. It never changes."""

    def __init__(self, ups, *, downs=None, sizes=None):
        if not is_row(ups):
            raise BadTable(-1, "ups")
        if downs is not None and not is_row_of(downs, len(ups)):
            raise BadTable(-1, "downs")
        if sizes is None:
            self.sizes = read_sizes(ups)
        else:
            self.sizes = told_sizes(sizes, len(ups) + 1)
        self.ups = checked_tables(ups, self.sizes, "ups")
        if downs is None:
            self.downs = self.ups
        else:
            self.downs = checked_tables(downs, self.sizes, "downs")

    @property
    def top(self):
        return len(self.sizes) - 1

    @property
    def is_even(self):
        return self.ups == self.downs

    @property
    def is_simple(self):
        if self.ups != self.downs:
            return False
        return all([entry <= 1 for table in self.ups for row in table for entry in row])

    def __getitem__(self, at):
        check_rank(self.sizes, at)
        return self.sizes[at]

    def __len__(self):
        return len(self.sizes)

    def __iter__(self):
        return iter(self.sizes)

    def __eq__(self, other):
        return (
            isinstance(other, Web) and self.sizes == other.sizes
            and self.ups == other.ups and self.downs == other.downs
        )

    def __add__(self, other):
        if not isinstance(other, Web):
            return NotImplemented
        return Web(
            beside_tables(self.sizes, other.sizes, self.ups, other.ups),
            downs=beside_tables(self.sizes, other.sizes, self.downs, other.downs),
            sizes=beside_sizes(self.sizes, other.sizes),
        )

    def __mul__(self, other):
        if not isinstance(other, Web):
            return NotImplemented
        return Web(
            product_tables(self.sizes, other.sizes, self.ups, other.ups),
            downs=product_tables(self.sizes, other.sizes, self.downs, other.downs),
            sizes=product_sizes(self.sizes, other.sizes),
        )

    def __invert__(self):
        return Web(self.downs, downs=self.ups, sizes=self.sizes)

    def __rshift__(self, other):
        check_number("many", other, 0)
        empty = [()] * other
        return Web(
            empty + list(self.ups),
            downs=empty + list(self.downs),
            sizes=[0] * other + list(self.sizes),
        )

    def up_row(self, rank, place):
        """The up strands from the place to each place of the next rank, () at the top."""
        check_place_at(self.sizes, rank, place)
        if rank == self.top:
            return ()
        return self.ups[rank][place]

    def down_row(self, rank, place):
        """The down strands from the place to each place of the rank beneath, () at rank 0."""
        check_place_at(self.sizes, rank, place)
        if rank == 0:
            return ()
        return tuple([row[place] for row in self.downs[rank - 1]])

    def is_fresh(self, rank, place):
        """True if no strand lies between the place and the rank beneath."""
        check_place_at(self.sizes, rank, place)
        if rank == 0:
            return True
        return not any([row[place] for row in self.ups[rank - 1] + self.downs[rank - 1]])

    def cut(self, rank):
        """The web of the ranks 0 to rank."""
        check_rank(self.sizes, rank)
        return Web(self.ups[:rank], downs=self.downs[:rank], sizes=self.sizes[:rank + 1])

    def grown(self, ups, downs=None):
        """The web with one rank more, tied by these tables; without downs they are equal to ups."""
        size = self.sizes[self.top]
        length = row_length(ups)
        if size == 0 or not is_count_table(ups, size, length):
            raise BadTable(self.top, "ups")
        if downs is not None and not is_count_table(downs, size, length):
            raise BadTable(self.top, "downs")
        under = ups if downs is None else downs
        return Web(
            list(self.ups) + [ups],
            downs=list(self.downs) + [under],
            sizes=list(self.sizes) + [length],
        )

    def empty_rank(self):
        """The web with one rank more that has no place."""
        empty = [[()] * self.sizes[self.top]]
        return Web(
            list(self.ups) + empty,
            downs=list(self.downs) + empty,
            sizes=list(self.sizes) + [0],
        )

    @classmethod
    def shapes(cls, top):
        """Shapes of the sums 0 to top."""
        tables = shape_tables(check_up_to("top", top, 7))
        return cls(tables, sizes=sizes_from(tables))

    @classmethod
    def subsets(cls, many):
        """Sets of so many integers, by their number of members."""
        tables = subset_tables(check_up_to("many", many, 6))
        return cls(tables, sizes=sizes_from(tables))

    @classmethod
    def spaces(cls, many):
        """Spaces of bits, by the number of times that they can be halved."""
        tables = space_tables(check_up_to("many", many, 3))
        return cls(tables, sizes=sizes_from(tables))

    @classmethod
    def words(cls, top):
        """The web in which each rank copies the two ranks beneath it."""
        tables = word_tables(check_up_to("top", top, 8))
        return cls(tables, sizes=sizes_from(tables))

    @classmethod
    def tree(cls, children):
        """The tree in which each place of rank n has children[n] children."""
        if not is_row(children):
            raise BadNumbers(-1)
        for at, many in enumerate(children):
            if not is_count(many):
                raise BadNumbers(at)
        tables = tree_tables(children)
        return cls(tables, sizes=sizes_from(tables))
