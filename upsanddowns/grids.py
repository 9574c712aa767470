"""Tables of any integers: determinants, ranks, nulls, solutions and minors, without fractions."""

from math import gcd

from upsanddowns.amounts import plain_by
from upsanddowns.checks import check_unlike
from upsanddowns.errors import BadLot, BadReading, BadTable
from upsanddowns.forms import is_int_row, is_int_table, is_square_table


def width_of(table):
    """The number of columns; a table without rows has none."""
    return len(table[0]) if len(table) > 0 else 0


def pivot_row(rows, start, column):
    """The first row from the start on with an entry unlike 0 in the column, None if there is none."""
    for at in range(start, len(rows)):
        if rows[at][column] != 0:
            return at
    return None


def exchanged_rows(rows, first, second):
    """The rows with two of them exchanged."""
    found = list(rows)
    found[first] = rows[second]
    found[second] = rows[first]
    return found


def cleared(rows, at, column, lead):
    """The rows with the column's entries of all rows but number at made 0; lead is the last pivot."""
    # All entries are minors of the table at each step, so dividing by the last pivot leaves no rest.
    pivot = rows[at]
    scale = pivot[column]
    return [
        row if number == at
        else [(scale * one - row[column] * two) // lead for one, two in zip(row, pivot)]
        for number, row in enumerate(rows)
    ]


def eliminated(table, width):
    """The rows with the first columns eliminated, the pivot columns, and the last pivot.

    Row k has the last pivot in pivot column number k, and all other rows have 0 there; the rows
    behind them have 0 in all of the first columns.
    """
    rows = [list(row) for row in table]
    pivots = []
    lead = 1
    for column in range(width):
        at = len(pivots)
        found = pivot_row(rows, at, column)
        if found is not None:
            rows = cleared(exchanged_rows(rows, at, found), at, column, lead)
            lead = rows[at][column]
            pivots.append(column)
    return rows, pivots, lead


def check_table(table):
    """Raises BadTable unless the table is made of integers, in rows of one length."""
    if not is_int_table(table):
        raise BadTable(0, "ups")


def told_by_pivots(table, width):
    """The number of pivots of a table with so many columns, the last pivot, and the sign.

    Only what is still to be eliminated is kept, since neither a determinant nor a rank needs more.
    """
    rows = table
    pivots = 0
    lead = 1
    sign = 1
    for _ in range(width):
        found = pivot_row(rows, 0, 0)
        if found is None:
            rows = [row[1:] for row in rows]
        else:
            sign = -sign if found > 0 else sign
            rows = exchanged_rows(rows, 0, found)
            pivot = rows[0]
            rows = [row[1:] for row in cleared(rows, 0, 0, lead)[1:]]
            lead = pivot[0]
            pivots += 1
    return pivots, lead, sign


def determinant_of(table):
    """The determinant of a square table."""
    pivots, lead, sign = told_by_pivots(table, len(table))
    return sign * lead if pivots == len(table) else 0


def determinant(table):
    """The determinant of a square table, 1 if it has no rows."""
    if not is_square_table(table):
        raise BadTable(0, "ups")
    return determinant_of(table)


def rank_of(table):
    """The number of linearly independent rows."""
    check_table(table)
    return told_by_pivots(table, width_of(table))[0]


def lowest_row(row):
    """The row divided so that no integer divides all entries and the first one unlike 0 is above 0."""
    first = 0
    shared = 0
    for entry in row:
        shared = gcd(shared, entry)
        if first == 0:
            first = entry
    divisor = -shared if first < 0 else shared
    return tuple([entry // divisor for entry in row])


def null_of(rows, pivots, lead, width, free):
    """The row that the table takes to 0 and that has 0 at the other free columns."""
    row = [0] * width
    row[free] = lead
    for at, column in enumerate(pivots):
        row[column] = -rows[at][free]
    return lowest_row(row)


def nulls(table):
    """A row for each free column that the table takes to 0, by ascending free columns."""
    check_table(table)
    width = width_of(table)
    rows, pivots, lead = eliminated(table, width)
    return tuple([
        null_of(rows, pivots, lead, width, free)
        for free in range(width)
        if free not in pivots
    ])


def solution_of(table, target):
    """The scaled reading that the table takes to the target, with 0 at the free columns, or None."""
    width = width_of(table)
    wide = [list(row) + [entry] for row, entry in zip(table, target)]
    rows, pivots, lead = eliminated(wide, width)
    if any([row[width] for row in rows[len(pivots):]]):
        return None
    found = [0] * width
    for at, column in enumerate(pivots):
        found[column] = rows[at][width]
    return plain_by(found, lead)


def solve(table, target):
    """The scaled reading that the table takes to the target, with 0 at the free columns, or None."""
    check_table(table)
    if not is_int_row(target, len(table)):
        raise BadReading(0)
    return solution_of(table, target)


def minor(table, rows, columns):
    """The determinant of the entries at these rows and columns, taken in this order."""
    check_table(table)
    check_unlike(rows, len(table))
    check_unlike(columns, width_of(table))
    if len(rows) != len(columns):
        raise BadLot(-1)
    return determinant_of([[table[row][column] for column in columns] for row in rows])
