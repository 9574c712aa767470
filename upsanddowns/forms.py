"""What form a value has, asked without raising an error."""

from upsanddowns.amounts import is_int


def is_row(one):
    """True for a list or a tuple."""
    return isinstance(one, (list, tuple))


def is_count(one):
    """True for an integer that is not below 0."""
    return is_int(one) and one >= 0


def is_row_of(one, length):
    """True for a list or tuple with so many items."""
    return is_row(one) and len(one) == length


def is_int_row(one, length):
    """True for a list or tuple of so many integers."""
    return is_row_of(one, length) and all([is_int(entry) for entry in one])


def is_count_row(one, length):
    """True for a list or tuple of so many integers not below 0."""
    return is_row_of(one, length) and all([is_count(entry) for entry in one])


def is_whole_row(one, length):
    """True for a list or tuple of so many integers above 0."""
    return is_int_row(one, length) and all([entry >= 1 for entry in one])


def is_order(one, many):
    """True for a list or tuple that holds each of 0 to many - 1 just once."""
    return is_int_row(one, many) and sorted(one) == list(range(many))


def is_count_table(one, rows, length):
    """True for so many rows, each of so many integers not below 0."""
    return is_row_of(one, rows) and all([is_count_row(row, length) for row in one])


def is_int_table(one):
    """True for rows of integers that all have one length; there may be no row."""
    if not is_row(one):
        return False
    if len(one) == 0:
        return True
    return is_row(one[0]) and all([is_int_row(row, len(one[0])) for row in one])


def is_square_table(one):
    """True for a table of integers with as many columns as rows."""
    return is_row(one) and all([is_int_row(row, len(one)) for row in one])


def is_number_pair(one):
    """True for a pair (q, r) of integers with q not below 0."""
    return is_int_row(one, 2) and one[0] >= 0


def first_unlike(one, other):
    """The least number at which two rows differ, also if only one of them goes so far, or None."""
    for at in range(max(len(one), len(other))):
        if at >= len(one) or at >= len(other) or one[at] != other[at]:
            return at
    return None


def frozen(table):
    """The table as a tuple of tuples."""
    return tuple([tuple(row) for row in table])
