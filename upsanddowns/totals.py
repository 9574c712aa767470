"""Totals of closed words at a rank, and sums over all words of one length."""

from math import factorial

from upsanddowns.amounts import check_number, product_of
from upsanddowns.checks import check_any_rank, check_rank
from upsanddowns.normal import normal_terms, row_behind_down
from upsanddowns.twosteps import down_up
from upsanddowns.words import check_word, rise


def trace(table):
    """The sum of the diagonal of a square table."""
    return sum([row[at] for at, row in enumerate(table)])


def total(kept, rank, word):
    """The told counts of the word from each place of the rank back to it, added up."""
    check_rank(kept.sizes, rank)
    check_word(word)
    if rise(word) != 0:
        return 0
    return sum([
        entry * trace(down_up(kept, rank, downs))
        for entry, downs, _ in normal_terms(kept.numbers, word, rank)
    ])


def picks(word, many):
    """The number of sets of so many pairs of a u and a later d in which no letter occurs twice."""
    check_word(word)
    check_number("many", many, 0)
    row = [1]
    ups = 0
    for letter in word:
        if letter == "u":
            ups += 1
        else:
            paired = [entry * (ups - at) for at, entry in enumerate(row)]
            row = [one + two for one, two in zip(row + [0], [0] + paired)]
    return row[many] if many < len(row) else 0


def pairs_left_out(length, downs, ups):
    """How many pairs a word of this length has besides these letters, None if there is no such number."""
    rest = length - downs - ups
    if rest < 0 or rest % 2 != 0:
        return None
    return rest // 2


def rows_added(first, second):
    """The sum of two rows; None stands for a row of 0."""
    if first is None:
        return second
    if second is None:
        return first
    return [one + two for one, two in zip(first, second)]


def row_of_all(numbers, rank, downs, ups):
    """The sum of the normal rows of all words with so many letters d and u, from the rank."""
    # A normal row is worked out letter by letter, each step a sum of multiples of the entries, so the
    # rows of all words that begin with as many letters d and u are added up before the next letter.
    start = [1] + [0] * min(downs, ups)
    before = []
    for height in range(ups + 1):
        here = []
        for depth in range(downs + 1):
            row = start if height == 0 and depth == 0 else None
            if height > 0:
                row = rows_added(row, before[depth])
            if depth > 0:
                row = rows_added(row, row_behind_down(numbers, here[depth - 1], rank, height, depth - 1))
            here.append(row)
        before = here
    return before[downs]


def all_words(numbers, rank, length, downs, ups):
    """The entry at so many letters d and u, summed over all words of the length."""
    check_any_rank(rank)
    check_number("length", length, 0)
    check_number("downs", downs, 0)
    check_number("ups", ups, 0)
    pairs = pairs_left_out(length, downs, ups)
    if pairs is None or downs > rank:
        return 0
    return row_of_all(numbers, rank, downs + pairs, ups + pairs)[pairs]


def by_formula(r, length, downs, ups):
    """The sum over all words of the length where the pair is (1, r) at all ranks."""
    check_number("r", r, None)
    check_number("length", length, 0)
    check_number("downs", downs, 0)
    check_number("ups", ups, 0)
    pairs = pairs_left_out(length, downs, ups)
    if pairs is None:
        return 0
    alike = factorial(pairs) * product_of([2] * pairs) * factorial(downs) * factorial(ups)
    return factorial(length) // alike * product_of([r] * pairs)
