"""Turning: peaks, tokens and fillings read backward, and the rules that fit this."""

from upsanddowns.amounts import check_number
from upsanddowns.checks import check_any_rank, check_even, check_rank, check_seen
from upsanddowns.errors import BadRule, TooMany
from upsanddowns.fillings import Filling, check_filling, entries_listed
from upsanddowns.rules import Rule, check_pair, peaks_between, tokens_between
from upsanddowns.strands import has_strands
from upsanddowns.words import rise, turned


def pair_turns(pair, strands):
    """True if turnings are there for the pair (q, r) with the strand pair (g, f)."""
    q, r = pair
    g, f = strands
    return 0 <= g <= q and (q - g) % 2 == 0 and 0 <= f <= r and (r - f) % 2 == 0


def turnings_are_there(numbers, strands, rank):
    """True if turnings are there at the rank."""
    return pair_turns(numbers[rank], strands[rank])


def turned_number(number, many, still):
    """A label or colour turned: neighbours are exchanged, and the last ones, so many, stay."""
    return number if number >= many - still else number ^ 1


def turned_token(pair, strands, token):
    """The token read backward, at a rank with the pair (q, r) and the strand pair (g, f)."""
    if len(token) == 1:
        return (turned_number(token[0], pair[1], strands[1]),)
    return (turned_number(token[0], pair[0], strands[0]), token[1], token[3], token[2])


def turn_token(numbers, strands, rank, token):
    """The token of the rank read backward."""
    check_any_rank(rank)
    if not turnings_are_there(numbers, strands, rank):
        raise BadRule(rank)
    return turned_token(numbers[rank], strands[rank], token)


def turn_peak(peak):
    """The peak read backward."""
    return (peak[0], peak[2], peak[1])


def is_even_at(web, rank):
    """True if up strands and down strands are equal between the rank and its neighbours."""
    if web.ups[rank] != web.downs[rank]:
        return False
    return rank == 0 or web.ups[rank - 1] == web.downs[rank - 1]


def may_turn(kept, rank, g, f):
    """True if an even-handed rule may have these strand numbers at the rank."""
    check_rank(kept.sizes, rank)
    check_number("g", g, None)
    check_number("f", f, None)
    check_seen(kept.sizes, rank + 1)
    if not is_even_at(kept.web, rank) or not pair_turns(kept.numbers[rank], (g, f)):
        return False
    return has_strands(kept.web, rank, g, f)


def pairs_turn(rule, strands, rank, x, other):
    """True if the peaks read backward between two places have the tokens read backward."""
    pair = rule.kept.numbers[rank]
    told = {peak: token for peak, token in rule.match(rank, other, x)}
    return all([
        told[turn_peak(peak)] == turned_token(pair, strands[rank], token)
        for peak, token in rule.match(rank, x, other)
    ])


def rank_turns(rule, strands, rank):
    """True if turnings are there at the rank and the rule fits them between all its places."""
    if not turnings_are_there(rule.kept.numbers, strands, rank):
        return False
    size = rule.kept.sizes[rank]
    return all([pairs_turn(rule, strands, rank, x, other) for x in range(size) for other in range(x, size)])


def is_even_handed(rule, strands):
    """True if the rule is even-handed with these strand numbers."""
    if not rule.kept.web.is_even:
        return False
    return all([rank_turns(rule, strands, rank) for rank in range(rule.kept.top)])


def places_in(row):
    """Where each item of a row stands."""
    return {one: at for at, one in enumerate(row)}


def arranged(partners):
    """Numbers in the order: those that are their own partners, then each other one with its partner."""
    alone = [at for at, other in enumerate(partners) if at == other]
    twos = [one for at, other in enumerate(partners) if at < other for one in (at, other)]
    return alone + twos


class EvenRule(Rule):
    """The even rule."""

    WORD = "even"

    def __init__(self, kept, strands):
        check_even(kept.web)
        super().__init__(kept)
        for rank in range(kept.top):
            if not may_turn(kept, rank, strands[rank][0], strands[rank][1]):
                raise BadRule(rank)
        self.strands = strands

    def token_numbers(self, rank, x, other):
        """The numbers of the tokens of the peaks between two places of the rank."""
        check_pair(self.kept, rank, x, other)
        if x < other:
            return tuple(range(len(peaks_between(self.kept, rank, x, other))))
        if x > other:
            return self.numbers_back(rank, x, other)
        return self.numbers_round(rank, x)

    def turn(self, rank, token):
        """The token of the rank read backward."""
        return turned_token(self.kept.numbers[rank], self.strands[rank], token)

    def numbers_back(self, rank, x, other):
        """The token numbers from the greater place to the lesser one."""
        forth = places_in(peaks_between(self.kept, rank, other, x))
        told = tokens_between(self.kept, rank, other, x)
        spots = places_in(tokens_between(self.kept, rank, x, other))
        return tuple([
            spots[self.turn(rank, told[forth[turn_peak(peak)]])]
            for peak in peaks_between(self.kept, rank, x, other)
        ])

    def numbers_round(self, rank, x):
        """The token numbers from a place back to it."""
        found = peaks_between(self.kept, rank, x, x)
        told = tokens_between(self.kept, rank, x, x)
        heights = places_in(found)
        spots = places_in(told)
        firsts = arranged([heights[turn_peak(peak)] for peak in found])
        seconds = arranged([spots[self.turn(rank, token)] for token in told])
        numbers = {one: two for one, two in zip(firsts, seconds)}
        return tuple([numbers[at] for at in range(len(found))])


def even_rule(kept, strands):
    """The even rule of the kept web with these strand numbers."""
    return EvenRule(kept, strands)


def turned_entry(numbers, strands, filling, entry):
    """The entry read backward, as one of the turned word."""
    g, j, kind, number = entry
    rank = filling.meeting(g, j)
    if not turnings_are_there(numbers, strands, rank):
        raise BadRule(rank)
    side = 0 if kind == "swap" else 1
    last = len(filling.word) - 1
    return (last - j, last - g, kind, turned_number(number, numbers[rank][side], strands[rank][side]))


def read_backward(numbers, strands, filling):
    """The filling read backward; it is not checked."""
    entries = [turned_entry(numbers, strands, filling, entry) for entry in filling.entries]
    return Filling(turned(filling.word), filling.rank + rise(filling.word), sorted(entries))


def turned_filling(numbers, strands, filling):
    """The filling read backward, which is one of the turned word."""
    check_filling(numbers, filling)
    return read_backward(numbers, strands, filling)


def is_own_turn(numbers, strands, filling):
    """True if the filling is equal to itself read backward."""
    return turned_filling(numbers, strands, filling) == filling


def own_turns(numbers, strands, start, steps):
    """How many fillings of so many u and as many d, all of them marked, are their own turn."""
    check_any_rank(start)
    check_number("steps", steps, 0)
    for rank in range(start, start + steps):
        if not turnings_are_there(numbers, strands, rank):
            raise BadRule(rank)
    if numbers.gains(start, steps) > 2000:
        raise TooMany(2000)
    # From rank 0 no d is left without a mark, and the ranks beneath the start do not come in.
    word = "u" * steps + "d" * steps
    moved_numbers = numbers.moved(start)
    moved_strands = strands.moved(start)
    found = [Filling(word, 0, entries) for entries in entries_listed(moved_numbers, word, 0)]
    return len([one for one in found if read_backward(moved_numbers, moved_strands, one) == one])
