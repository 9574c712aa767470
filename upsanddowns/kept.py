"""Kept webs: a web together with numbers that it keeps."""

from upsanddowns.errors import NotKept
from upsanddowns.judging import above, below, breach
from upsanddowns.walks import count


def pairs_of(kept):
    """The pairs of the ranks of a kept web, the top included."""
    return [kept.numbers[rank] for rank in range(len(kept.sizes))]


class Kept:
    """A web that keeps its numbers. It never changes."""

    def __init__(self, web, numbers):
        for rank in range(web.top):
            fault = breach(web, rank, numbers[rank][0], numbers[rank][1])
            if fault is not None:
                raise NotKept(rank, fault[0], fault[1])
        self.web = web
        self.numbers = numbers
        self.sizes = web.sizes

    @property
    def top(self):
        return len(self.sizes) - 1

    @property
    def lively(self):
        return self.numbers.lively_to(len(self.sizes) - 1)

    def __eq__(self, other):
        return isinstance(other, Kept) and self.web == other.web and pairs_of(self) == pairs_of(other)

    def below(self, rank):
        """The walks down and up between the places of the rank."""
        return below(self.web, rank)

    def above(self, rank):
        """The walks up and down between the places of the rank."""
        return above(self.web, rank)

    def count(self, place, word, other):
        """The number of walks by the word from the place to the other one."""
        return count(self.web, place, word, other)

    def pair_at(self, rank):
        """The pair (q, r) of any rank."""
        return self.numbers[rank]

    def cut(self, rank):
        """The kept web of the ranks 0 to rank."""
        return Kept(self.web.cut(rank), self.numbers)

    def grown(self, ups, downs=None):
        """The kept web with one rank more, tied by these tables."""
        return Kept(self.web.grown(ups, downs), self.numbers)

    def exchanged(self):
        """The kept web with up strands and down strands exchanged."""
        return Kept(~self.web, self.numbers)

    def beside(self, other):
        """The kept web beside the other one, with the numbers of this one."""
        for rank in range(min(self.top, other.top)):
            if self.numbers[rank] != other.numbers[rank]:
                raise NotKept(rank, -1, -1)
        return Kept(self.web + other.web, self.numbers)
