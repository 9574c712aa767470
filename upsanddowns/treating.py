"""Treating: a walk is taken to a filling and a walk down and then up, and back again."""

from upsanddowns.amounts import is_int
from upsanddowns.checks import check_place, check_seen
from upsanddowns.errors import BadFilling, BadNumber
from upsanddowns.fillings import Filling, check_filling
from upsanddowns.forms import frozen
from upsanddowns.normal import down_then_up
from upsanddowns.walks import walk_back
from upsanddowns.words import climb


class Treated:
    """A filling and the walk left. Only treat makes these."""

    def __init__(self, filling, walk, place, last_place):
        self.filling = filling
        self.walk = walk
        self.place = place
        self.last_place = last_place


def told_walk(web, place, word, walk):
    """The walk as a tuple of tuples, if it is a walk by the word from the place."""
    walk_back(web, place, word, walk)
    return frozen(walk)


def places_passed(place, walk):
    """The places of a walk, the one where it begins included."""
    rank, number = place
    found = [(rank, number)]
    for letter, _, reached in walk:
        rank = rank + 1 if letter == "u" else rank - 1
        found.append((rank, reached))
    return found


def is_turn(letters, at):
    """True if a u stands at this index and a d directly behind it."""
    return letters[at][1] == "u" and letters[at + 1][1] == "d"


def turns_of(letters):
    """The indexes at which a u stands directly ahead of a d."""
    return [at for at in range(len(letters) - 1) if is_turn(letters, at)]


def state_of(rule, place, word, walk):
    """The state of the walk: the place, the letters with their numbers, the walk, and no entries."""
    told = told_walk(rule.kept.web, place, word, walk)
    return (tuple(place), tuple(enumerate(word)), told, ())


def treated_at(rule, state, at):
    """The state behind treating at the index of a u directly ahead of a d."""
    place, letters, walk, entries = state
    rank, x = places_passed(place, walk[:at])[at]
    up = walk[at]
    down = walk[at + 1]
    token = rule.token_of(rank, x, down[2], (up[2], up[1], down[1]))
    g = letters[at][0]
    j = letters[at + 1][0]
    if len(token) == 1:
        entry = (g, j, "mark", token[0])
        between = ()
        steps = ()
    else:
        entry = (g, j, "swap", token[0])
        between = (letters[at + 1], letters[at])
        steps = (("d", token[2], token[1]), ("u", token[3], down[2]))
    return (
        place, letters[:at] + between + letters[at + 2:], walk[:at] + steps + walk[at + 2:],
        tuple(sorted(entries + (entry,))),
    )


def treat_one(rule, state, at):
    """The state behind treating once, at this index."""
    letters = state[1]
    if not is_int(at) or not 0 <= at < len(letters) - 1 or not is_turn(letters, at):
        raise BadNumber("at")
    return treated_at(rule, state, at)


def treat(rule, place, word, walk, *, backwards=False):
    """The walk treated to the end."""
    state = state_of(rule, place, word, walk)
    start = state[0]
    last = places_passed(start, state[2])[len(word)]
    turns = turns_of(state[1])
    while len(turns) > 0:
        state = treated_at(rule, state, turns[len(turns) - 1] if backwards else turns[0])
        turns = turns_of(state[1])
    return Treated(Filling(word, start[0], state[3]), state[2], start, last)


def treatings_of(filling):
    """The treatings that give the filling, first to last, each as (index, kind, number)."""
    told = {(g, j): (kind, number) for g, j, kind, number in filling.entries}
    letters = list(enumerate(filling.word))
    found = []
    turns = turns_of(letters)
    while len(turns) > 0:
        at = turns[0]
        kind, number = told[(letters[at][0], letters[at + 1][0])]
        found.append((at, kind, number))
        between = [letters[at + 1], letters[at]] if kind == "swap" else []
        letters = letters[:at] + between + letters[at + 2:]
        turns = turns_of(letters)
    return found


def taken_back(rule, place, walk, at, kind, number):
    """The walk ahead of a treating at this index that put in an entry of this kind and number."""
    rank, x = places_passed(place, walk[:at])[at]
    if kind == "mark":
        other = x
        token = (number,)
        rest = walk[at:]
    else:
        down = walk[at]
        up = walk[at + 1]
        other = up[2]
        token = (number, down[2], down[1], up[1])
        rest = walk[at + 2:]
    peak = rule.peak_of(rank, x, other, token)
    return walk[:at] + (("u", peak[1], peak[0]), ("d", peak[2], other)) + rest


def untreat(rule, place, filling, walk):
    """The walk that treat takes to this filling and this walk left."""
    kept = rule.kept
    start = check_place(kept.sizes, place)
    check_filling(kept.numbers, filling)
    if filling.rank != start[0]:
        raise BadFilling(-1)
    check_seen(kept.sizes, climb(filling.word, filling.rank))
    downs, ups = filling.left()
    found = told_walk(kept.web, start, down_then_up(downs, ups), walk)
    for at, kind, number in reversed(list(treatings_of(filling))):
        found = taken_back(rule, start, found, at, kind, number)
    return found
