"""Numbers: a pair (q, r) for each rank, and the gains that follow from them."""

from upsanddowns.amounts import check_number
from upsanddowns.checks import check_any_rank, check_rank_from
from upsanddowns.errors import BadNumbers
from upsanddowns.forms import frozen, is_number_pair, is_row
from upsanddowns.words import check_word, heights


def told_pairs(pairs, tail):
    """The pairs as tuples, without those at the end that equal the tail."""
    many = len(pairs)
    while many > 0 and tuple(pairs[many - 1]) == tail:
        many = many - 1
    return frozen(pairs[:many])


class Numbers:
    """A pair (q, r) for each rank. They never change."""

    def __init__(self, pairs, *, tail=(1, 1)):
        if not is_row(pairs):
            raise BadNumbers(-1)
        for at, pair in enumerate(pairs):
            if not is_number_pair(pair):
                raise BadNumbers(at)
        if not is_number_pair(tail):
            raise BadNumbers(len(pairs))
        self.tail = tuple(tail)
        self.pairs = told_pairs(pairs, self.tail)

    @classmethod
    def steady(cls, q, r):
        """The pair (q, r) at all ranks."""
        return cls([], tail=(q, r))

    @classmethod
    def falling(cls, many):
        """The pair (1, many - 2n) at each rank n up to many, and (1, -many - 2) above."""
        check_number("many", many, 0)
        return cls([(1, many - 2 * rank) for rank in range(many + 1)], tail=(1, -many - 2))

    def __getitem__(self, at):
        check_any_rank(at)
        return self.pairs[at] if at < len(self.pairs) else self.tail

    def __iter__(self):
        raise TypeError("numbers are not iterated over")

    def __eq__(self, other):
        return isinstance(other, Numbers) and self.pairs == other.pairs and self.tail == other.tail

    @property
    def is_positive(self):
        return self.tail[1] >= 1 and all([pair[1] >= 1 for pair in self.pairs])

    @property
    def is_plain(self):
        return self.tail[0] == 1 and all([pair[0] == 1 for pair in self.pairs])

    def gain(self, start, steps):
        """How many walks more go up and down than down and up, from a rank with this start."""
        check_any_rank(start)
        check_number("steps", steps, 0)
        value = 0
        for rank in range(start, start + steps):
            q, r = self[rank]
            value = q * value + r
        return value

    def gains(self, start, steps):
        """The product of the gains from the start by 1 to steps."""
        check_any_rank(start)
        check_number("steps", steps, 0)
        value = 0
        many = 1
        for rank in range(start, start + steps):
            q, r = self[rank]
            value = q * value + r
            many = many * value
        return many

    def swaps(self, start, steps):
        """The product of q at so many ranks from the start on."""
        check_any_rank(start)
        check_number("steps", steps, 0)
        many = 1
        for rank in range(start, start + steps):
            many = many * self[rank][0]
        return many

    def val(self, start, rank, word):
        """The val of the word from the rank at the level start."""
        check_any_rank(start)
        check_rank_from(rank, start)
        check_word(word)
        value = 1
        for height, letter in zip(heights(word, rank), word):
            if letter == "d":
                value = value * (self.gain(start, height - start) if height > start else 0)
        return value

    def changed(self, rank, pair):
        """Numbers with this pair at the rank and all others unchanged."""
        check_any_rank(rank)
        if not is_number_pair(pair):
            raise BadNumbers(rank)
        pairs = [self[at] for at in range(max(rank + 1, len(self.pairs)))]
        pairs[rank] = pair
        return Numbers(pairs, tail=self.tail)

    def moved(self, many):
        """Numbers whose pair at rank n is the pair at rank n + many."""
        check_number("many", many, 0)
        return Numbers(self.pairs[many:], tail=self.tail)

    def raised(self, many, pair=(1, 1)):
        """Numbers with this pair at so many ranks and the old pairs so many ranks higher."""
        check_number("many", many, 0)
        if not is_number_pair(pair):
            raise BadNumbers(0)
        return Numbers([pair] * many + list(self.pairs), tail=self.tail)

    def dead_pair(self, rank):
        """The first start and steps that end at the rank or beneath it with a gain of 0, or None."""
        check_any_rank(rank)
        row = []
        for at in range(rank):
            q, r = self[at]
            row = [q * one + r for one in row] + [r]
            if 0 in row:
                start = row.index(0)
                return (start, at + 1 - start)
        return None

    def lively_to(self, rank):
        """True if no gain that ends at the rank or beneath it is 0."""
        return self.dead_pair(rank) is None


def last_alive(numbers, start, most):
    """The greatest rank up to most that is reached from the start without a gain of 0."""
    check_any_rank(start)
    check_rank_from(most, start)
    value = 0
    for rank in range(start, most):
        q, r = numbers[rank]
        value = q * value + r
        if value == 0:
            return rank
    return most


def first_not_above(numbers, start, most):
    """The least steps, not beyond most, whose gain from the start is not above 0, or None."""
    check_any_rank(start)
    check_rank_from(most, start)
    value = 0
    for rank in range(start, most):
        q, r = numbers[rank]
        value = q * value + r
        if value <= 0:
            return rank + 1 - start
    return None
