"""The sizes and tables of webs that are made of other webs."""


def offsets_of(sizes, others, rank):
    """Where the pairs with a place of rank i of the first web begin in this rank of the product."""
    row = []
    many = 0
    for at in range(rank + 1):
        row.append(many)
        many = many + sizes[at] * others[rank - at]
    return row


def product_sizes(sizes, others):
    """The sizes of the product of two webs with these sizes."""
    return tuple([
        sum([sizes[at] * others[rank - at] for at in range(rank + 1)])
        for rank in range(min(len(sizes), len(others)))
    ])


def product_rows(sizes, others, rank):
    """The places of this rank of the product, each as (i, x, z)."""
    return [
        (at, first, second)
        for at in range(rank + 1)
        for first in range(sizes[at])
        for second in range(others[rank - at])
    ]


def product_strands(low, high, table, other_table):
    """The strands between two places of the product, given the tables above the two places of low."""
    if high[0] == low[0]:
        return other_table[low[2]][high[2]] if high[1] == low[1] else 0
    if high[0] == low[0] + 1:
        return table[low[1]][high[1]] if high[2] == low[2] else 0
    return 0


def product_table(sizes, others, tables, other_tables, rank):
    """The table above this rank of the product, of one sort of strands."""
    above = product_rows(sizes, others, rank + 1)
    return [
        [product_strands(low, high, tables[low[0]], other_tables[rank - low[0]]) for high in above]
        for low in product_rows(sizes, others, rank)
    ]


def product_tables(sizes, others, tables, other_tables):
    """All tables of the product, of one sort of strands."""
    top = min(len(sizes), len(others)) - 1
    return [product_table(sizes, others, tables, other_tables, rank) for rank in range(top)]


def beside_sizes(sizes, others):
    """The sizes of two webs side by side."""
    return [one + two for one, two in zip(sizes, others)]


def beside_tables(sizes, others, tables, other_tables):
    """The tables of two webs side by side, of one sort of strands."""
    top = min(len(sizes), len(others)) - 1
    return [
        [list(row) + [0] * others[rank + 1] for row in tables[rank]]
        + [[0] * sizes[rank + 1] + list(row) for row in other_tables[rank]]
        for rank in range(top)
    ]


def scaled_tables(tables, scales):
    """Each table as many times as great as its scale tells."""
    return [
        [[entry * scale for entry in row] for row in table]
        for table, scale in zip(tables, scales)
    ]
