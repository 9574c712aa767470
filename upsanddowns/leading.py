"""Leading: walks taken to the walks of another web, or by another word, with the same filling."""

from upsanddowns.alike import are_alike
from upsanddowns.checks import check_place, check_seen
from upsanddowns.corners import check_fresh, turning_walk
from upsanddowns.errors import BadRank, NoneSuch, TooMany
from upsanddowns.fillings import Filling, entries_listed
from upsanddowns.normal import normal_row
from upsanddowns.treating import treat, untreat
from upsanddowns.words import check_word, climb


def check_equal_pairs(numbers, others, start, steps):
    """Raises NoneSuch for the first of so many ranks from the start whose pairs differ."""
    for rank in range(start, start + steps):
        if numbers[rank] != others[rank]:
            raise NoneSuch(rank)


def lead(rule, other_rule, place, other_place, walk, steps):
    """The walk of the other web with the same filling, from the other place back to it."""
    told = turning_walk(rule.kept, place, walk, steps)
    start = check_place(rule.kept.sizes, place)
    other = other_rule.kept
    end = check_place(other.sizes, other_place)
    if end[0] != start[0]:
        raise BadRank(end[0])
    check_seen(other.sizes, end[0] + steps)
    check_fresh(other.web, end)
    check_equal_pairs(rule.kept.numbers, other.numbers, end[0], steps)
    found = treat(rule, start, "u" * steps + "d" * steps, told)
    return untreat(other_rule, end, found.filling, ())


def marks_in(entries):
    """The number of marks among the entries."""
    return len([entry for entry in entries if entry[2] == "mark"])


def entries_with(numbers, word, rank, many):
    """The entries of all fillings of the word from the rank with so many marks, ascending."""
    return [entries for entries in entries_listed(numbers, word, rank) if marks_in(entries) == many]


def lead_word(rule, place, word, walk, other):
    """The walk by the other word from the place that stands where this walk stands among its kin."""
    found = treat(rule, place, word, walk)
    numbers = rule.kept.numbers
    rank = found.place[0]
    check_word(other)
    check_seen(rule.kept.sizes, climb(other, rank))
    if not are_alike(numbers, word, other, rank):
        raise NoneSuch(rank)
    if sum(normal_row(numbers, word, rank)) > 2000:
        raise TooMany(2000)
    many = found.filling.many_marks
    at = entries_with(numbers, word, rank, many).index(found.filling.entries)
    entries = entries_with(numbers, other, rank, many)[at]
    return untreat(rule, found.place, Filling(other, rank, entries), found.walk)
