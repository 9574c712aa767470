"""Tables of integers: rows and columns, products, and diagonals. Nothing is checked here."""


def dot(row, other):
    """The sum of the products of the entries that stand at one place."""
    return sum([one * two for one, two in zip(row, other)])


def columns_of(table, many):
    """The columns of a table; how many is told, since a table without rows does not tell it."""
    return tuple([tuple([row[at] for row in table]) for at in range(many)])


def dots(rows, others):
    """The table that has at row x and column z the dot of row x of rows and row z of others."""
    return tuple([tuple([dot(row, other) for other in others]) for row in rows])


def table_product(one, other):
    """One table times the other; the other tells its columns by its first row."""
    many = len(other[0]) if len(other) > 0 else 0
    return dots(one, columns_of(other, many))


def unit_table(size):
    """1 on the diagonal and 0 off it."""
    return tuple([tuple([1 if at == row else 0 for at in range(size)]) for row in range(size)])


def zero_table(size):
    """A square table of 0 alone."""
    return tuple([(0,) * size for _ in range(size)])


def shifted(table, scale, shift):
    """Scale times a square table, plus shift on the diagonal."""
    units = unit_table(len(table))
    return tuple([
        tuple([scale * entry + shift * unit for entry, unit in zip(row, line)])
        for row, line in zip(table, units)
    ])


def entries_of(table):
    """All entries of a table in one row."""
    return [entry for row in table for entry in row]


def is_nought(table):
    """True if all entries are 0."""
    return not any(entries_of(table))
