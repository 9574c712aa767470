"""Normal rows: every word told by walks that go down and then up."""

from upsanddowns.checks import check_any_rank, check_place, check_seen
from upsanddowns.walks import counts
from upsanddowns.words import check_word, dips, heights, rise


def row_behind_down(numbers, row, rank, ups, downs):
    """The normal row of a word with so many letters from the rank, one letter d later."""
    later = [0] * len(row)
    for at, entry in enumerate(row):
        if entry != 0:
            start = rank - downs + at
            if start > 0:
                later[at] = later[at] + entry * numbers.swaps(start, ups - at)
            if at + 1 < len(row):
                later[at + 1] = later[at + 1] + entry * numbers.gain(start, ups - at)
    return later


def normal_row(numbers, word, rank):
    """The normal row of the word from the rank."""
    check_word(word)
    check_any_rank(rank)
    row = [1] + [0] * min(word.count("u"), word.count("d"))
    ups = 0
    downs = 0
    for letter in word:
        if letter == "u":
            ups += 1
        else:
            row = row_behind_down(numbers, row, rank, ups, downs)
            downs += 1
    return tuple(row)


def numbered_terms(numbers, word, rank):
    """The terms of the word from the rank, each as (c, K, downs, ups)."""
    ups = word.count("u")
    downs = word.count("d")
    return [
        (at, entry, downs - at, ups - at)
        for at, entry in enumerate(normal_row(numbers, word, rank))
        if entry != 0
    ]


def normal_terms(numbers, word, rank):
    """The terms of the word from the rank, each as (K, downs, ups), by ascending c."""
    check_word(word)
    return tuple([term[1:] for term in numbered_terms(numbers, word, rank)])


def down_then_up(downs, ups):
    """The word of so many letters d followed by so many letters u."""
    return "d" * downs + "u" * ups


def told_counts(kept, place, word):
    """The told count of the word from the place to each place of the last rank."""
    start = check_place(kept.sizes, place)
    check_word(word)
    last = start[0] + rise(word)
    if last < 0:
        return ()
    check_seen(kept.sizes, last)
    row = [0] * kept.sizes[last]
    for entry, downs, ups in normal_terms(kept.numbers, word, start[0]):
        told = counts(kept.web, start, down_then_up(downs, ups))
        row = [one + entry * two for one, two in zip(row, told)]
    return tuple(row)


def told_count(kept, place, word, other):
    """The told count of the word from the place to the other one."""
    start = check_place(kept.sizes, place)
    check_word(word)
    last, end = check_place(kept.sizes, other)
    if start[0] + rise(word) != last:
        return 0
    return told_counts(kept, start, word)[end]


def add_joined(row, numbers, rank, term, other):
    """Adds to the row what a term of the first word and one of the second word give together."""
    middle = "u" * term[3] + "d" * other[2]
    for at, entry in enumerate(normal_row(numbers, middle, rank - term[2])):
        if entry != 0:
            number = term[0] + other[0] + at
            row[number] = row[number] + term[1] * other[1] * entry


def joined(numbers, rank, first, second):
    """The normal row of the first word followed by the second one, from the rows of both."""
    check_any_rank(rank)
    check_word(first)
    check_word(second)
    whole = first + second
    row = [0] * (min(whole.count("u"), whole.count("d")) + 1)
    if dips(first, rank):
        return tuple(row)
    others = numbered_terms(numbers, second, heights(first, rank)[-1])
    for term in numbered_terms(numbers, first, rank):
        for other in others:
            add_joined(row, numbers, rank, term, other)
    return tuple(row)
