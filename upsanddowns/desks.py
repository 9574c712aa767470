"""The desk: a web is told, gone on, folded, asked and taken back."""

from upsanddowns.amounts import check_number, is_int
from upsanddowns.checks import check_rank, check_rank_from, check_up_to
from upsanddowns.closed import sizes_beneath
from upsanddowns.errors import BadDeed, BadNumber, NoneSuch
from upsanddowns.folding import folded
from upsanddowns.forms import frozen, is_row_of
from upsanddowns.gates import gate
from upsanddowns.growth import Growth
from upsanddowns.judging import read_numbers
from upsanddowns.kept import Kept
from upsanddowns.levels import parts
from upsanddowns.lotsapart import most_layered
from upsanddowns.needs import reflected
from upsanddowns.news import news_behind
from upsanddowns.normal import told_count
from upsanddowns.partings import Parting, coarsest, fits
from upsanddowns.totals import total
from upsanddowns.words import check_word
from upsanddowns.writings import column_room, grown_by, writings_listed

QUESTIONS = ("count", "total", "parts")


def with_single_rank(parting, size):
    """The parting with one rank more, of so many single places."""
    return Parting(list(parting.rows) + [[[place] for place in range(size)]])


class Desk:
    """A web with its stored numbers, a fair parting, a chosen rank, and the deeds that stand."""

    def __init__(self, web, numbers=None, *, chosen=0):
        check_rank(web.sizes, chosen)
        self.kept_now = Kept(web, read_numbers(web) if numbers is None else numbers)
        self.parting_now = Parting.single(web.sizes)
        self.chosen_now = chosen
        # Each entry is (deed, news, kept web, parting), the last two as they were ahead of the deed.
        self.past = ()

    @property
    def held(self):
        return self.kept_now.web

    @property
    def stored(self):
        return self.kept_now.numbers

    @property
    def now(self):
        return self.kept_now

    @property
    def parting(self):
        return self.parting_now

    @property
    def top(self):
        return len(self.kept_now.sizes) - 1

    @property
    def size_row(self):
        return self.kept_now.sizes

    @property
    def standing(self):
        return len(self.past)

    @property
    def chosen(self):
        return self.chosen_now

    @chosen.setter
    def chosen(self, value):
        self.choose(value)

    def choose(self, rank):
        """Makes the rank the chosen one."""
        check_rank(self.kept_now.sizes, rank)
        self.chosen_now = rank

    def stand(self, deed, kept, parting):
        """Changes the desk by the deed, which then stands; returns its news."""
        news = news_behind(deed[0], self.kept_now, kept, self.parting_now, parting)
        self.past = self.past + ((deed, news, self.kept_now, self.parting_now),)
        self.kept_now = kept
        self.parting_now = parting
        return news

    def grow(self, deed, kept):
        """Changes the desk by a deed of one rank more; returns its news."""
        more = with_single_rank(self.parting_now, kept.sizes[kept.top])
        return self.stand(deed, kept, coarsest(kept.web, more))

    def tell(self, ups, downs=None):
        """One rank more, tied by these tables."""
        kept = self.kept_now.grown(ups, downs)
        return self.grow(("tell", (frozen(ups), None if downs is None else frozen(downs))), kept)

    def reflect(self):
        """One rank more, by reflecting."""
        return self.grow(("reflect", ()), reflected(self.kept_now))

    def lay(self, number):
        """One rank more, by the writing of this number."""
        check_number("number", number, 0)
        found = writings_listed(self.kept_now, 300)
        if number >= len(found):
            raise NoneSuch(self.top)
        return self.grow(("lay", (number,)), grown_by(self.kept_now, found[number]))

    def end(self):
        """One rank more, without places."""
        return self.grow(("end", ()), Kept(self.held.empty_rank(), self.stored))

    def renumber(self, rank, pair):
        """Another stored pair at a rank from the top on."""
        check_rank_from(rank, self.top)
        numbers = self.stored.changed(rank, pair)
        return self.stand(("renumber", (rank, numbers[rank])), Kept(self.held, numbers), self.parting_now)

    def merge(self, rows):
        """The parting joined with these lots, as far as that is fair."""
        told = fits(self.held, Parting(rows))
        return self.stand(
            ("merge", (told.rows,)), self.kept_now, coarsest(self.held, self.parting_now.joined(told)),
        )

    def split(self):
        """The parting into single places."""
        return self.stand(("split", ()), self.kept_now, Parting.single(self.size_row))

    def undo(self, many=1):
        """Takes back so many deeds, the last ones."""
        if not is_int(many) or not 1 <= many <= self.standing:
            raise BadNumber("many")
        entry = self.past[self.standing - many]
        self.past = self.past[:self.standing - many]
        self.kept_now = entry[2]
        self.parting_now = entry[3]
        self.chosen_now = min(self.chosen_now, self.top)
        return ()

    def count(self, place, word, other):
        """The told count of the word from the place to the other one."""
        return told_count(self.kept_now, place, word, other)

    def total(self, word, rank=None):
        """The total of the word from the rank, or from the chosen one."""
        check_word(word)
        return total(self.kept_now, self.chosen_now if rank is None else rank, word)

    def sizes_ahead(self, many):
        """For each of so many ranks ahead the least and the greatest size that are told."""
        check_number("many", many, 0)
        top = self.top
        dead = self.stored.dead_pair(top + many)
        # Up to the rank ahead of the first gain of 0, no going on has fewer places than the top.
        last = top + many if dead is None else dead[0] + dead[1] - 1
        rooms = [column_room(self.kept_now) if self.held.is_even else None] + [None] * many
        return tuple([
            (self.size_row[top] if top + 1 + at <= last else 0, rooms[at]) for at in range(many)
        ])

    def shares(self, place):
        """The growth from the place."""
        return Growth(self.kept_now, place)

    def lots(self):
        """The folded web of the parting."""
        return folded(self.held, self.parting_now)

    def gate_size(self, rank, other):
        """The number of places of a least gate between all of the rank and the other rank."""
        check_rank(self.size_row, rank)
        check_rank_from(other, rank)
        return len(gate(self.held, rank, list(range(self.size_row[rank])), other - rank))

    def apart(self, many=1):
        """The greatest number of places of a lot made of so many lots apart."""
        return most_layered(self.kept_now, many, self.top)

    def forget(self, rank):
        """The sizes up to the rank, read off its table above."""
        return sizes_beneath(self.stored, rank, self.kept_now.above(rank))

    def told(self, **more):
        """The answers to the questions passed, in the order of count, total and parts."""
        for name in more:
            if name not in QUESTIONS:
                raise BadDeed(name)
        found = []
        if "count" in more:
            asked = more["count"]
            if not is_row_of(asked, 3):
                raise BadDeed("count")
            found.append(self.count(asked[0], asked[1], asked[2]))
        if "total" in more:
            found.append(self.total(more["total"]))
        if "parts" in more:
            found.append(parts(self.kept_now, self.chosen_now, more["parts"]))
        return tuple(found)

    def news_of(self, number):
        """The news of the deed that stands at this number."""
        check_up_to("number", number, self.standing - 1)
        return self.past[number][1]

    def deeds(self):
        """The deeds that stand, each with what it was passed."""
        return tuple([entry[0] for entry in self.past])

    def same_as(self, other):
        """True if the other one is a desk with an equal web, equal numbers and an equal parting."""
        return (
            isinstance(other, Desk) and self.held == other.held
            and self.stored == other.stored and self.parting_now == other.parting
        )
