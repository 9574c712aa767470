"""Fillings: which pairs of a u and a later d of a word are swapped or marked, and with which numbers."""

from upsanddowns.amounts import check_number, is_int
from upsanddowns.checks import check_any_rank, check_r_not_below, check_up_to
from upsanddowns.errors import BadFilling, TooMany
from upsanddowns.forms import is_count, is_row, is_row_of
from upsanddowns.normal import normal_row
from upsanddowns.words import check_word, climb


def is_letter_at(word, at, letter):
    """True if the word has this letter at the number."""
    return is_int(at) and 0 <= at < len(word) and word[at] == letter


def is_pair(word, g, j):
    """True for the numbers of a u and of a later d of the word."""
    return is_letter_at(word, g, "u") and is_letter_at(word, j, "d") and g < j


def is_entry(word, entry):
    """True for (g, j, kind, number) of a u and a later d of the word."""
    if not is_row_of(entry, 4):
        return False
    g, j, kind, number = entry
    return is_pair(word, g, j) and kind in ("swap", "mark") and is_count(number)


def told_entries(word, entries):
    """The entries as tuples, if each of them is one and they ascend strictly by their pairs."""
    if not is_row(entries):
        raise BadFilling(-1)
    found = []
    for at, entry in enumerate(entries):
        if not is_entry(word, entry) or (at > 0 and (entry[0], entry[1]) <= found[at - 1][:2]):
            raise BadFilling(at)
        found.append(tuple(entry))
    return tuple(found)


class Filling:
    """Swaps and marks of pairs of letters of a word from a rank. It never changes."""

    def __init__(self, word, rank, entries):
        check_word(word)
        check_any_rank(rank)
        self.word = word
        self.rank = rank
        self.entries = told_entries(word, entries)

    @property
    def many_marks(self):
        return len([entry for entry in self.entries if entry[2] == "mark"])

    def __len__(self):
        return len(self.entries)

    def __iter__(self):
        return iter(self.entries)

    def __contains__(self, pair):
        if not is_row_of(pair, 2):
            return False
        return any([entry[0] == pair[0] and entry[1] == pair[1] for entry in self.entries])

    def __eq__(self, other):
        return (
            isinstance(other, Filling) and self.word == other.word
            and self.rank == other.rank and self.entries == other.entries
        )

    def marks(self):
        """The marks, each as (g, j, colour), ascending."""
        return tuple([(g, j, colour) for g, j, kind, colour in self.entries if kind == "mark"])

    def left(self):
        """How many d's and how many u's are in no mark."""
        marked = {}
        for g, j, _ in self.marks():
            marked[g] = True
            marked[j] = True
        rest = [letter for at, letter in enumerate(self.word) if at not in marked]
        return (rest.count("d"), rest.count("u"))

    def meeting(self, g, j):
        """The meeting rank of the u number g and the later d number j."""
        if not is_pair(self.word, g, j):
            raise BadFilling(-1)
        between = len([mark for mark in self.marks() if mark[0] > g and mark[1] < j])
        return self.rank + self.word[:g].count("u") - self.word[:j].count("d") + between

    def rank_at(self, ups, downs):
        """The rank of the corner behind so many u's and so many d's."""
        check_up_to("ups", ups, self.word.count("u"))
        check_up_to("downs", downs, self.word.count("d"))
        inside = [
            1 for g, j, _ in self.marks()
            if self.word[:g].count("u") >= ups and self.word[:j].count("d") < downs
        ]
        return self.rank + ups - downs + len(inside)


def is_live(marks, g, j):
    """True if no mark takes the u away ahead of this d, or the d away behind this u."""
    return not any([(one == g and two < j) or (two == j and one > g) for one, two, _ in marks])


def live_pairs(filling):
    """All pairs of a u and a later d that are live by the marks of the filling."""
    marks = filling.marks()
    word = filling.word
    return [
        (g, j)
        for j in range(len(word)) if word[j] == "d"
        for g in range(j) if word[g] == "u" and is_live(marks, g, j)
    ]


def is_number_of(numbers, rank, kind, number):
    """True if pairs that meet at the rank have so many choices of this kind that the number is one."""
    if rank < 0:
        return False
    q, r = numbers[rank]
    return number < (q if kind == "swap" else r)


def check_entries(numbers, filling):
    """Raises BadFilling for the first entry that cannot stand in a filling."""
    marks = filling.marks()
    # Of two marks with a letter in common one is not live: the one with the later d, or the farther u.
    for at, (g, j, kind, number) in enumerate(filling.entries):
        if not is_live(marks, g, j) or not is_number_of(numbers, filling.meeting(g, j), kind, number):
            raise BadFilling(at)


def check_filling(numbers, filling):
    """The filling itself, if it is one for these numbers."""
    if not isinstance(filling, Filling):
        raise BadFilling(-1)
    check_entries(numbers, filling)
    # All entries stand at live pairs, each at its own, so it is enough to count them.
    if filling.left()[0] > filling.rank or len(live_pairs(filling)) != len(filling.entries):
        raise BadFilling(len(filling.entries))
    return filling


def states_behind(numbers, rank, j, state):
    """The states behind the d number j.

    A state is (u's in no mark, how many d's in no mark, choices), and a choice is (g, j, kind, many):
    the entry of this pair and kind may have each number below many.
    """
    ups, downs, choices = state
    low = rank - downs
    found = []
    # The d meets the u's in no mark, the nearest one first, and goes on until it is marked with one.
    for at in reversed(range(len(ups))):
        q, r = numbers[low + at]
        if r > 0:
            found.append((ups[:at] + ups[at + 1:], downs, choices + ((ups[at], j, "mark", r),)))
        if q == 0:
            return found
        choices = choices + ((ups[at], j, "swap", q),)
    if low > 0:
        found.append((ups, downs + 1, choices))
    return found


def those_that_go_on(numbers, rank, rest, states):
    """The states with which some filling begins; rest is the word of the letters that follow."""
    known = {}
    found = []
    for state in states:
        key = (len(state[0]), state[1])
        if key not in known:
            known[key] = any(normal_row(numbers, "u" * key[0] + rest, rank - key[1]))
        if known[key]:
            found.append(state)
    return found


def choices_listed(numbers, word, rank):
    """The choices of all fillings, each row of them for as many fillings as its numbers may be taken."""
    states = [((), 0, ())]
    for at, letter in enumerate(word):
        if letter == "u":
            states = [(ups + (at,), downs, choices) for ups, downs, choices in states]
        else:
            later = [one for state in states for one in states_behind(numbers, rank, at, state)]
            # Left without those that lead nowhere, there are never more states than fillings.
            states = those_that_go_on(numbers, rank, word[at + 1:], later)
    return [choices for _, _, choices in states]


def entries_of_choices(choices):
    """All rows of entries, ascending by their pairs, that take a number for each choice."""
    rows = [()]
    for g, j, kind, many in sorted(choices):
        rows = [row + ((g, j, kind, number),) for row in rows for number in range(many)]
    return rows


def entries_listed(numbers, word, rank):
    """The entries of all fillings, ascending; no r that is met may be below 0."""
    return sorted([
        entries
        for choices in choices_listed(numbers, word, rank)
        for entries in entries_of_choices(choices)
    ])


def fillings_of(numbers, word, rank, *, limit=2000):
    """All fillings of the word from the rank, ascending by their entries."""
    check_word(word)
    check_any_rank(rank)
    check_number("limit", limit, 0)
    check_r_not_below(numbers, 0, climb(word, rank))
    if sum(normal_row(numbers, word, rank)) > limit:
        raise TooMany(limit)
    for entries in entries_listed(numbers, word, rank):
        yield Filling(word, rank, entries)


def filling_count(numbers, word, rank, many):
    """The number of fillings of the word from the rank with so many marks."""
    check_word(word)
    check_any_rank(rank)
    check_number("many", many, 0)
    check_r_not_below(numbers, 0, climb(word, rank))
    row = normal_row(numbers, word, rank)
    return row[many] if many < len(row) else 0
