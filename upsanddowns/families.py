"""The tables of the five families of even webs. Each of them has one place at rank 0."""

from upsanddowns.tables import columns_of, unit_table


def sizes_from(tables):
    """The sizes of the web with one place at rank 0 and these tables."""
    return [1] + [len(table[0]) if len(table) > 0 else 0 for table in tables]


def all_rows(above):
    """The different rows of the lists, ascending."""
    found = {}
    for rows in above:
        for row in rows:
            found[row] = True
    return sorted(list(found))


def ties_to(above, layer):
    """The table with 1 where a row of the layer is in the list of a place."""
    return [[1 if row in rows else 0 for row in layer] for rows in above]


def taller(shape):
    """The shapes with one entry greater by 1, or one entry 1 more at the end."""
    found = []
    for at in range(len(shape)):
        if at == 0 or shape[at - 1] > shape[at]:
            found.append(shape[:at] + (shape[at] + 1,) + shape[at + 1:])
    found.append(shape + (1,))
    return found


def shape_tables(top):
    """Shapes, the greatest one of each rank first."""
    layer = [()]
    tables = []
    for _ in range(top):
        above = [taller(shape) for shape in layer]
        layer = all_rows(above)[::-1]
        tables.append(ties_to(above, layer))
    return tables


def fuller(row, many):
    """The sets with one member more."""
    return [tuple(sorted(row + (one,))) for one in range(many) if one not in row]


def subset_tables(many):
    """Sets, as ascending tuples in ascending order."""
    layer = [()]
    tables = []
    for _ in range(many):
        above = [fuller(row, many) for row in layer]
        layer = all_rows(above)
        tables.append(ties_to(above, layer))
    return tables


def spanned(space, one):
    """The members of a space and their sums with one more integer, as an ascending tuple."""
    return tuple(sorted(space + tuple([member ^ one for member in space])))


def wider(space, many):
    """The spaces with twice as many members that contain this one; some occur more than once."""
    return [spanned(space, one) for one in range(1 << many) if one not in space]


def space_tables(many):
    """Spaces, as ascending tuples in ascending order."""
    layer = [(0,)]
    tables = []
    for _ in range(many):
        above = [wider(space, many) for space in layer]
        layer = all_rows(above)
        tables.append(ties_to(above, layer))
    return tables


def tree_tables(children):
    """Trees, the children of each place side by side."""
    size = 1
    tables = []
    for many in children:
        tables.append([
            [1 if place == child // many else 0 for child in range(size * many)]
            for place in range(size)
        ])
        size = size * many
    return tables


def word_tables(top):
    """The web of words: each rank copies the rank two beneath it and the rank beneath it."""
    tables = [[[1]]] if top > 0 else []
    for rank in range(1, top):
        size = len(tables[rank - 1][0])
        copies = columns_of(tables[rank - 1], size)
        units = unit_table(size)
        tables.append([list(copies[place]) + list(units[place]) for place in range(size)])
    return tables
