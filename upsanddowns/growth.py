"""Growth: ways up from an origin, each step taken by chance so that the shares of all ranks fit."""

from upsanddowns.amounts import product_of
from upsanddowns.checks import check_place, check_rank, check_seen
from upsanddowns.corners import check_fresh
from upsanddowns.errors import BadNumbers, BadPlace, BadWord, NotPositive
from upsanddowns.forms import is_count, is_row
from upsanddowns.normal import told_count, told_counts
from upsanddowns.numbers import first_not_above
from upsanddowns.shares import Share
from upsanddowns.tables import columns_of, dot
from upsanddowns.walks import unit_row
from upsanddowns.words import check_word, heights


def check_gains(numbers, start, most):
    """Raises NotPositive for the first rank up to most that is reached from the start with a gain below 1."""
    if most > start:
        steps = first_not_above(numbers, start, most)
        if steps is not None:
            raise NotPositive(start + steps)


def ways_from(sizes, tables, place):
    """A row for each rank: how many ways lead from the place up to each place, by these tables."""
    rank, number = place
    rows = [(0,) * size for size in sizes[:rank]] + [unit_row(sizes[rank], number)]
    for at in range(rank, len(sizes) - 1):
        rows.append(tuple([dot(rows[at], column) for column in columns_of(tables[at], sizes[at + 1])]))
    return tuple(rows)


def check_drawn(row, steps):
    """Raises BadNumbers unless the row holds an integer not below 0 for each of so many steps."""
    if not is_row(row):
        raise BadNumbers(-1)
    for at, one in enumerate(row):
        if at >= steps or not is_count(one):
            raise BadNumbers(at)
    if len(row) < steps:
        raise BadNumbers(len(row))


def part_at(row, rest):
    """The number of the part in which the rest falls, where parts of these lengths are laid in a row."""
    at = 0
    left = rest
    while left >= row[at]:
        left = left - row[at]
        at += 1
    return at


class Growth:
    """Growth from an origin in a kept web. It never changes."""

    def __init__(self, kept, place):
        told = check_place(kept.sizes, place)
        check_gains(kept.numbers, told[0], kept.top)
        check_fresh(kept.web, told)
        self.kept = kept
        self.place = told
        self.ahead_rows = ways_from(kept.sizes, kept.web.ups, told)
        self.back_rows = ways_from(kept.sizes, kept.web.downs, told)

    @property
    def origin_rank(self):
        return self.place[0]

    def __call__(self, place):
        return self.share(place)

    def gain_to(self, rank):
        """The gain from the origin to the rank."""
        return self.kept.numbers.gain(self.place[0], rank - self.place[0])

    def gains_to(self, rank):
        """The product of the gains from the origin up to the rank."""
        return self.kept.numbers.gains(self.place[0], rank - self.place[0])

    def ahead(self, place):
        """The number of up-ways from the origin to the place."""
        rank, number = check_place(self.kept.sizes, place)
        return self.ahead_rows[rank][number]

    def back(self, place):
        """The number of down-ways from the place to the origin."""
        rank, number = check_place(self.kept.sizes, place)
        return self.back_rows[rank][number]

    def share(self, place):
        """The chance that growth comes to the place."""
        rank, number = check_place(self.kept.sizes, place)
        return self.shares_at(rank)[number]

    def shares(self, rank):
        """The chances that growth comes to the places of the rank."""
        check_rank(self.kept.sizes, rank)
        return self.shares_at(rank)

    def shares_at(self, rank):
        """The shares of the places of a rank of the web."""
        if rank < self.place[0]:
            return tuple([Share(0) for _ in self.ahead_rows[rank]])
        whole = self.gains_to(rank)
        return tuple([
            Share(ahead * back, whole)
            for ahead, back in zip(self.ahead_rows[rank], self.back_rows[rank])
        ])

    def check_grown(self, place):
        """The place as a tuple, if growth comes back from it to the origin."""
        rank, number = check_place(self.kept.sizes, place)
        if self.back_rows[rank][number] == 0:
            raise BadPlace(rank, number)
        return rank, number

    def parts_up(self, rank, number):
        """For each place of the next rank the part that the step up leads there, of the row's sum."""
        return [many * back for many, back in zip(self.kept.web.ups[rank][number], self.back_rows[rank + 1])]

    def step_up(self, place):
        """The chances of the places of the next rank."""
        rank, number = self.check_grown(place)
        check_seen(self.kept.sizes, rank + 1)
        whole = self.gain_to(rank + 1) * self.back_rows[rank][number]
        return tuple([Share(part, whole) for part in self.parts_up(rank, number)])

    def step_down(self, place):
        """The chances of the places of the rank beneath."""
        rank, number = self.check_grown(place)
        if rank == self.place[0]:
            raise BadPlace(rank, number)
        whole = self.back_rows[rank][number]
        return tuple([
            Share(row[number] * back, whole)
            for row, back in zip(self.kept.web.downs[rank - 1], self.back_rows[rank - 1])
        ])

    def check_steps(self, place, word):
        """The place as a tuple and the heights of the word, if no letter leads beneath the origin."""
        start = self.check_grown(place)
        check_word(word)
        row = heights(word, start[0])
        for at, height in enumerate(row[1:]):
            if height < self.place[0]:
                raise BadWord(at)
        return start, row

    def whole_of(self, start, word, row):
        """The product by which the told counts of a word from the place are divided to give chances."""
        gains = [self.gain_to(height + 1) for height, letter in zip(row, word) if letter == "u"]
        return self.back_rows[start[0]][start[1]] * product_of(gains)

    def chance(self, place, word, other):
        """The chance that steps by the word lead from the place to the other one."""
        start, row = self.check_steps(place, word)
        last, number = check_place(self.kept.sizes, other)
        check_gains(self.kept.numbers, self.place[0], max(row))
        told = told_count(self.kept, start, word, (last, number))
        return Share(told * self.back_rows[last][number], self.whole_of(start, word, row))

    def chances(self, place, word):
        """The chances that steps by the word lead from the place to the places of the last rank."""
        start, row = self.check_steps(place, word)
        last = row[-1]
        check_seen(self.kept.sizes, last)
        check_gains(self.kept.numbers, self.place[0], max(row))
        whole = self.whole_of(start, word, row)
        told = told_counts(self.kept, start, word)
        return tuple([Share(many * back, whole) for many, back in zip(told, self.back_rows[last])])

    def drawn_way(self, row):
        """The places of the way of growth that these integers draw, one of them for each step."""
        check_drawn(row, self.kept.top - self.place[0])
        rank, number = self.place
        way = [self.place]
        for one in row:
            parts = self.parts_up(rank, number)
            number = part_at(parts, one % (self.gain_to(rank + 1) * self.back_rows[rank][number]))
            rank += 1
            way.append((rank, number))
        return tuple(way)
