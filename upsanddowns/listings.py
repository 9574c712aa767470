"""Listings: ranks, desks, tables and words as lines of text."""

from upsanddowns.checks import check_rank
from upsanddowns.errors import BadTable, BadWord
from upsanddowns.forms import is_int_table, is_row
from upsanddowns.tables import columns_of, entries_of
from upsanddowns.totals import total
from upsanddowns.words import check_word, climb, dips


def line_of(kept, rank):
    """The line of the rank."""
    check_rank(kept.sizes, rank)
    size = f"rank {rank}: size {kept.sizes[rank]}"
    gain = f"gain {kept.numbers.gain(0, rank)}"
    if rank == kept.top:
        return f"{size}, {gain}"
    q, r = kept.numbers[rank]
    ups = sum(entries_of(kept.web.ups[rank]))
    downs = sum(entries_of(kept.web.downs[rank]))
    return f"{size}, keeps {q} {r}, {gain}, up {ups}, down {downs}"


def listing(desk):
    """The lines of the web, its ranks, the lots and the deeds that stand."""
    kept = desk.now
    word = "even" if kept.web.is_even else "unlike"
    names = [name for name, _ in desk.deeds()]
    return tuple(
        [f"web of {len(kept.sizes)} ranks, {word}"]
        + [line_of(kept, rank) for rank in range(len(kept.sizes))]
        + [" ".join(["lots"] + [str(many) for many in desk.parting.lot_sizes()])]
        + [" ".join(["deeds"] + (names if len(names) > 0 else ["none"]))]
    )


def table_text(table):
    """The rows of the table, each column flush right."""
    if not is_int_table(table):
        raise BadTable(0, "ups")
    if len(table) == 0:
        return ()
    widths = [max([len(str(entry)) for entry in column]) for column in columns_of(table, len(table[0]))]
    return tuple([
        " ".join([str(entry).rjust(width) for entry, width in zip(row, widths)])
        for row in table
    ])


def word_line(kept, rank, word):
    """The line of the word: its climb from the rank, or that it dips, and its total."""
    height = "dips" if dips(word, rank) else str(climb(word, rank))
    many = str(total(kept, rank, word))
    return f"{word.ljust(12)} {height.rjust(5)} {many.rjust(12)}"


def words_text(kept, rank, words):
    """A line for each word."""
    check_rank(kept.sizes, rank)
    if not is_row(words):
        raise BadWord(-1)
    told = [check_word(word) for word in words]
    return tuple([word_line(kept, rank, word) for word in told])
