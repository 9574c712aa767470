import random
import unittest

from upsanddowns.closed import sizes_beneath
from upsanddowns.desks import Desk
from upsanddowns.errors import (
    BadDeed, BadNumber, BadNumbers, BadParting, BadPlace, BadRank, BadReading, BadTable, BadWord, NoneSuch,
    NotEven, NotKept, NotLively, NotPositive, RanksError, TooMany, Unseen,
)
from upsanddowns.folding import folded, folded_kept
from upsanddowns.growth import Growth
from upsanddowns.kept import Kept
from upsanddowns.levels import parts
from upsanddowns.needs import need, reflected
from upsanddowns.normal import told_count
from upsanddowns.numbers import Numbers
from upsanddowns.partings import Parting, coarsest, is_fair
from upsanddowns.totals import total
from upsanddowns.webs import Web
from upsanddowns.words import rise, turned
from upsanddowns.writings import grown_by, writing_many, writings

from tests.helpers import (
    Errors, all_kept, all_tuples, even_kept, growing_kept, places_at, places_of, random_split, readings_of, words_to,
)
from tests.test_writings import slow_writings, with_need

WORDS = ["", "ud", "du", "u", "uudd", "udud", "duud", "uuuddd"]


def state(desk):
    """All that a desk holds."""
    return (
        desk.held, desk.stored, desk.now, desk.parting, desk.chosen, desk.deeds(),
        tuple(desk.news_of(number) for number in range(desk.standing)),
    )


def some_desks():
    """Desks of small webs, even and unlike ones, lively and others, and one without places."""
    found = [Desk(kept.web, kept.numbers) for kept in growing_kept() if sum(kept.sizes) <= 24]
    found += [Desk(Web.shapes(2)), Desk(Web.subsets(2), Numbers.falling(2)), Desk(Web([], sizes=[1]), Numbers([(1, 4)]))]
    return found


def random_deed(dice, desk):
    """A deed that may stand, or be refused, as (name, arguments)."""
    name = dice.choice(["tell", "reflect", "lay", "end", "renumber", "merge", "merge", "split"])
    if name == "tell":
        if desk.held.is_even and need(desk.now) and dice.random() < 0.5:
            columns = [[dice.randint(0, 1) for _ in need(desk.now)] for _ in range(dice.randint(1, 2))]
            return name, ([list(row) for row in zip(*columns)],)
        table = need(desk.now)
        if len(table) == 1 and table[0][0] > 1 and dice.random() < 0.7:
            return name, (table, [[1]])
        more = reflected(desk.now).web if desk.now.pair_at(desk.top)[1] >= 0 else None
        return name, ((more.ups[-1], more.downs[-1]) if more and more[desk.top] else ([[1]],))
    if name == "lay":
        return name, (dice.randint(0, 2),)
    if name == "renumber":
        return name, (desk.top + dice.randint(0, 1), (dice.randint(0, 2), dice.randint(-2, 2)))
    if name == "merge":
        return name, ([random_split(dice, size) if size else [] for size in desk.size_row],)
    return name, ()


def busy_desks(most=9):
    """Desks at which some deeds were done and taken back, each with the news that its deeds returned."""
    dice = random.Random(7)
    found = []
    for desk in some_desks():
        told = []
        for _ in range(most):
            name, row = random_deed(dice, desk)
            under = desk.size_row[-2] if desk.top else 0
            q, r = desk.now.pair_at(desk.top)
            if desk.top >= 7 or (name in ("reflect", "tell") and not 0 <= q * under + r * desk.size_row[-1] <= 20):
                continue
            before = state(desk)
            try:
                told.append(getattr(desk, name)(*row))
            except RanksError:
                assert state(desk) == before
            if told and dice.random() < 0.15:
                desk.undo()
                told.pop()
        found.append((desk, told))
    return found


def slow_news(name, before, kept, old_parting, parting):
    """The news of a deed, told anew from what stood ahead of it and behind it."""
    n, p = kept.top, kept.sizes[-1]
    grown = name in ("tell", "reflect", "lay", "end")
    found = []
    if grown:
        found.append(f"rank {n} size {p}")
        found.append("keeps {} {}".format(*kept.pair_at(n - 1)))
        if before.web.is_even and not kept.web.is_even:
            found.append("unlike")
    if (grown or name == "renumber") and kept.numbers.lively_to(n + 1):
        found.append(f"sizes ahead at least {p}")
    if len(parting.rows[-1]) != len(old_parting.rows[-1]):
        found.append(f"lots {len(parting.rows[-1])}")
    if grown or name == "renumber":
        table = need(kept)
        low = any(entry < 0 for row in table for entry in row)
        if kept.web.is_even and p <= 6 and not low and sum(row[x] for x, row in enumerate(table)) <= 16:
            many = len(slow_writings(table))
            found.append("writings 9+" if many > 9 else f"writings {many}")
        if not any(any(row) for row in table):
            found.append("ends")
    return tuple(found)


def asked(call, *args, **more):
    """What the call answers; an error by its class and attributes."""
    try:
        return call(*args, **more)
    except RanksError as fault:
        return type(fault), vars(fault)


def growth_rows(desk, place):
    """The values of the growth from the place."""
    growth = asked(desk.shares, place)
    if not isinstance(growth, Growth):
        return growth
    return [(growth.ahead(one), growth.back(one), str(growth.share(one))) for one in places_of(desk.held)]


def chosen_answers(desk):
    """What the questions answer that look at the chosen rank."""
    found = [asked(desk.total, word) for word in WORDS] + [asked(desk.told, total=word) for word in WORDS]
    return found + [asked(desk.told, parts=row) for row in readings_of(1, desk.size_row[desk.chosen])]


def answers(desk):
    """What all other questions answer."""
    found = [desk.held, desk.stored, desk.now, desk.top, desk.size_row, desk.lots()]
    for n, x in places_of(desk.held):
        for word in WORDS:
            last = n + rise(word)
            if 0 <= last <= desk.top:
                found += [asked(desk.count, (n, x), word, other) for other in places_at(desk.held, last)]
    found += [asked(desk.total, word, n) for word in WORDS for n in range(desk.top + 1)]
    found += [asked(desk.sizes_ahead, many) for many in range(4)]
    found += [growth_rows(desk, place) for place in places_of(desk.held)]
    found += [asked(desk.gate_size, n, m) for n in range(desk.top + 1) for m in range(n, desk.top + 2)]
    found += [asked(desk.apart)] + [asked(desk.apart, many) for many in range(4)]
    return found + [asked(desk.forget, n) for n in range(desk.top + 1)]


class MadeTest(Errors, unittest.TestCase):
    def test_beginning(self):
        for kept in all_kept():
            desk = Desk(kept.web, kept.numbers, chosen=kept.top)
            self.assertEqual(desk.held, kept.web)
            self.assertEqual(desk.stored, kept.numbers)
            self.assertEqual(desk.now, kept)
            self.assertIs(type(desk.now), Kept)
            self.assertEqual(desk.parting, Parting.single(kept.sizes))
            self.assertEqual((desk.top, desk.size_row, desk.standing), (kept.top, kept.sizes, 0))
            self.assertEqual((desk.chosen, desk.deeds()), (kept.top, ()))
            self.assertEqual(desk.lots(), kept.web)

    def test_numbers_read_once(self):
        desk = Desk(Web.shapes(3))
        self.assertEqual(desk.stored, Numbers([(1, 1), (1, 1), (1, 1)]))
        self.assertEqual(desk.chosen, 0)
        line = Desk(Web([[[2]], [[2]]]))
        self.assertEqual(line.stored, Numbers([(1, 4), (1, 0)]))
        # Another pair is stored at the top, and stays though the web's own one would be read otherwise.
        line.renumber(2, (2, 0))
        line.reflect()
        self.assertEqual(line.stored, Numbers([(1, 4), (1, 0), (2, 0)]))
        self.assertEqual(line.size_row, (1, 1, 1, 2))

    def test_refused(self):
        for chosen in (-1, 4, True, None, "0"):
            self.refused(BadRank, {"rank": chosen}, Desk, Web.shapes(3), Numbers.falling(9), chosen=chosen)
        self.refused(NotKept, {"rank": 0, "first": 0, "second": 0}, Desk, Web.shapes(3), Numbers.falling(9))
        bad = Web([[[1], [2]]])
        self.refused(NotKept, {"rank": 0, "first": -1, "second": -1}, Desk, bad)
        self.refused(NotKept, {"rank": 0, "first": 0, "second": 1}, Desk, bad, Numbers([]))

    def test_chosen(self):
        desk = Desk(Web.shapes(3))
        desk.chosen = 3
        self.assertEqual(desk.chosen, 3)
        self.assertIsNone(desk.choose(1))
        self.assertEqual(desk.chosen, 1)
        for wrong in (-1, 4, True, None, "1"):
            self.refused(BadRank, {"rank": wrong}, desk.choose, wrong)
            self.refused(BadRank, {"rank": wrong}, setattr, desk, "chosen", wrong)
            self.assertEqual(desk.chosen, 1)
        desk.choose(2)
        self.assertEqual((desk.standing, desk.deeds()), (0, ()))


class DeedsTest(Errors, unittest.TestCase):
    def test_one_rank_more(self):
        for kept in growing_kept():
            if sum(kept.sizes) > 24 or kept.pair_at(kept.top)[1] < 0:
                continue
            more = reflected(kept)
            if more.sizes[-1] > 25:
                continue
            desk = Desk(kept.web, kept.numbers)
            news = desk.reflect()
            self.assertEqual((desk.now, desk.deeds()), (more, (("reflect", ()),)))
            self.assertEqual(desk.parting, Parting.single(more.sizes))
            other = Desk(kept.web, kept.numbers)
            if kept.sizes[-1]:
                ups, downs = [[list(row) for row in table] for table in (more.web.ups[-1], more.web.downs[-1])]
                self.assertEqual(other.tell(ups, downs), news)
                ups[0].append(7)
                self.assertEqual(other.deeds(), (("tell", (more.web.ups[-1], more.web.downs[-1])),))
                self.assertTrue(all_tuples(other.deeds()[0][1]))
                self.assertIs(desk.same_as(other), True)
        one = Desk(Web.shapes(1))
        one.tell([[1, 1]])
        self.assertEqual(one.deeds(), (("tell", (((1, 1),), None)),))
        one.undo()
        one.tell([[1, 1]], None)
        self.assertEqual(one.deeds(), (("tell", (((1, 1),), None)),))
        one.undo()
        one.tell(((2,),), [[1]])
        self.assertEqual(one.deeds(), (("tell", (((2,),), ((1,),))),))
        self.assertIs(one.held.is_even, False)

    def test_laying(self):
        for kept in even_kept():
            if sum(kept.sizes) > 24 or kept.sizes[-1] > 5:
                continue
            try:
                told = list(writings(kept))
            except TooMany:
                continue
            for number, writing in enumerate(told[:4]):
                desk = Desk(kept.web, kept.numbers)
                desk.lay(number)
                self.assertEqual(desk.now, grown_by(kept, writing))
                self.assertEqual(desk.deeds(), (("lay", (number,)),))
            self.refused(NoneSuch, {"rank": kept.top}, Desk(kept.web, kept.numbers).lay, len(told))

    def test_ending(self):
        desk = Desk(Web.subsets(2), Numbers.falling(2))
        self.assertEqual(desk.end(), ("rank 3 size 0", "keeps 1 -2", "lots 0", "writings 1", "ends"))
        self.assertEqual((desk.held, desk.deeds()), (Web.subsets(2).empty_rank(), (("end", ()),)))
        self.assertEqual(desk.end(), ("rank 4 size 0", "keeps 1 -4", "writings 1", "ends"))
        self.assertEqual(desk.size_row, (1, 2, 1, 0, 0))
        for kept in all_kept():
            table = need(kept)
            wrong = [(x, y) for x, row in enumerate(table) for y, entry in enumerate(row) if entry]
            if wrong:
                x, y = wrong[0]
                told = {"rank": kept.top, "first": x, "second": y}
                self.refused(NotKept, told, Desk(kept.web, kept.numbers).end)

    def test_other_pairs(self):
        desk = Desk(Web.shapes(3))
        desk.renumber(3, [2, -1])
        self.assertEqual(desk.stored, Numbers([(1, 1), (1, 1), (1, 1), (2, -1)]))
        desk.renumber(7, (0, 5))
        self.assertEqual(desk.stored[7], (0, 5))
        self.assertEqual(desk.deeds(), (("renumber", (3, (2, -1))), ("renumber", (7, (0, 5)))))
        self.assertTrue(all_tuples(desk.deeds()))
        self.assertEqual(desk.held, Web.shapes(3))
        self.assertEqual(desk.undo(), ())
        self.assertEqual(desk.stored[7], (1, 1))

    def test_lots(self):
        dice = random.Random(3)
        merged = 0
        for desk in some_desks():
            web = desk.held
            old = desk.parting
            for _ in range(3):
                rows = [random_split(dice, size) if size else [] for size in web.sizes]
                told = Parting(rows)
                desk.merge(rows)
                self.assertEqual(desk.parting, coarsest(web, old.joined(told)))
                self.assertEqual(desk.deeds()[-1], ("merge", (told.rows,)))
                self.assertEqual((desk.held, desk.now), (web, desk.now))
                merged += desk.parting != Parting.single(web.sizes)
                old = desk.parting
                self.assertEqual(desk.lots(), folded(web, old))
            desk.split()
            self.assertEqual(desk.parting, Parting.single(web.sizes))
            self.assertEqual(desk.deeds()[-1], ("split", ()))
            self.assertEqual(desk.standing, 4)
        self.assertGreater(merged, 15)

    def test_lots_behind_one_rank_more(self):
        seen = 0
        for kept in growing_kept():
            q, r = kept.pair_at(kept.top)
            if sum(kept.sizes) > 20 or r < 0 or reflected(kept).sizes[-1] > 20:
                continue
            desk = Desk(kept.web, kept.numbers)
            desk.merge([[list(range(size))] if size else [] for size in kept.sizes])
            ahead = desk.parting
            news = desk.reflect()
            single = [[x] for x in range(desk.size_row[-1])]
            self.assertEqual(desk.parting, coarsest(desk.held, Parting(list(ahead.rows) + [single])))
            self.assertIs(is_fair(desk.held, desk.parting), True)
            many = len(desk.parting.rows[-1])
            self.assertIs(f"lots {many}" in news, many != len(ahead.rows[-1]))
            seen += desk.parting.rows[:-1] != ahead.rows
        self.assertGreater(seen, 3)
        # A fold of the rank beneath that the new rank breaks.
        desk = Desk(Web([[[1, 1]]]), Numbers([(1, 2), (0, 3)]))
        self.assertEqual(desk.merge([[[0]], [[0, 1]]]), ("lots 1",))
        desk.tell([[1, 1, 1, 0], [0, 0, 0, 1]], [[3, 0, 0, 0], [0, 0, 0, 3]])
        self.assertEqual(desk.parting.rows[1], ((0,), (1,)))

    def test_refused(self):
        desk = Desk(Web.shapes(2), chosen=1)
        desk.merge([[[0]], [[0]], [[0, 1]]])
        before = state(desk)
        uneven = Desk(Web([[[1]], [[1]]], downs=[[[1]], [[2]]]))
        ended = Desk(Web.subsets(2).empty_rank(), Numbers.falling(2))
        falling = Desk(Web.subsets(2), Numbers.falling(2))
        for ups in (None, 5, [], [[1]], [[1, 1], [1]], [[1], [-1]], [[1], [True]]):
            self.refused(BadTable, {"rank": 2, "side": "ups"}, desk.tell, ups, 5)
        for downs in (5, [], [[1]], [[1], [1, 1]], [[1], [None]]):
            self.refused(BadTable, {"rank": 2, "side": "downs"}, desk.tell, [[1], [1]], downs)
        self.refused(NotKept, {"rank": 2, "first": 0, "second": 0}, desk.tell, [[1], [1]])
        self.refused(BadTable, {"rank": 3, "side": "ups"}, ended.tell, [])
        self.refused(NotPositive, {"rank": 2}, falling.reflect)
        for wrong in (-1, True, None, "0"):
            self.refused(BadNumber, {"name": "number"}, uneven.lay, wrong)
            self.refused(BadNumber, {"name": "number"}, desk.lay, wrong)
        self.refused(NotEven, {"rank": 1}, uneven.lay, 0)
        self.refused(NoneSuch, {"rank": 2}, desk.lay, 99)
        great = Desk(Web([], sizes=[1]), Numbers([(1, 400)]))
        self.refused(TooMany, {"limit": 300}, great.lay, 10 ** 9)
        self.refused(NotKept, {"rank": 2, "first": 0, "second": 0}, desk.end)
        off = Desk(Web([[[1, 1]]]), Numbers([(1, 2), (1, -1)]))
        self.refused(NotKept, {"rank": 1, "first": 0, "second": 1}, off.end)
        for rank in (-1, 1, True, None, "2"):
            self.refused(BadRank, {"rank": rank}, desk.renumber, rank, None)
        for pair in (None, 5, (1,), (-1, 1), (1, True), (1, 1, 1)):
            self.refused(BadNumbers, {"rank": 3}, lambda p: self.as_rank(desk, p), pair)
        self.refused(BadParting, {"rank": -1}, desk.merge, None)
        self.refused(BadParting, {"rank": 1}, desk.merge, [[[0]], [[1]], [[0, 1]]])
        self.refused(BadParting, {"rank": 2}, desk.merge, [[[0]], [[0]], [[0]]])
        self.refused(BadParting, {"rank": 2}, desk.merge, [[[0]], [[0]]])
        for many in (0, -1, 2, True, None, "1"):
            self.refused(BadNumber, {"name": "many"}, desk.undo, many)
        self.assertEqual(state(desk), before)
        self.refused(BadNumber, {"name": "many"}, uneven.undo)

    def as_rank(self, desk, pair):
        """BadNumbers tells the rank as its at."""
        try:
            desk.renumber(3, pair)
        except BadNumbers as fault:
            fault.rank = fault.at
            del fault.at
            raise


class UndoTest(Errors, unittest.TestCase):
    def test_taken_back(self):
        dice = random.Random(5)
        for desk in some_desks():
            states = [state(desk)]
            for _ in range(6):
                name, row = random_deed(dice, desk)
                under = desk.size_row[-2] if desk.top else 0
                q, r = desk.now.pair_at(desk.top)
                if desk.top >= 6 or (name in ("reflect", "tell") and not 0 <= q * under + r * desk.size_row[-1] <= 20):
                    continue
                try:
                    getattr(desk, name)(*row)
                    states.append(state(desk))
                except RanksError:
                    self.assertEqual(state(desk), states[-1])
            while len(states) > 1:
                many = dice.randint(1, len(states) - 1)
                self.assertEqual(desk.undo(many), ())
                del states[-many:]
                self.assertEqual(state(desk), states[-1])
            self.refused(BadNumber, {"name": "many"}, desk.undo)

    def test_chosen_rank(self):
        desk = Desk(Web.shapes(1))
        desk.reflect()
        desk.reflect()
        desk.chosen = 3
        desk.undo()
        self.assertEqual(desk.chosen, 2)
        desk.reflect()
        self.assertEqual(desk.chosen, 2)
        desk.chosen = 1
        desk.undo(2)
        self.assertEqual((desk.chosen, desk.top, desk.standing), (1, 1, 0))
        desk.reflect()
        desk.merge([[[0]], [[0]], [[0, 1]]])
        desk.split()
        desk.chosen = 2
        self.assertEqual(desk.undo(many=2), ())
        self.assertEqual(desk.chosen, 2)
        self.assertEqual(desk.deeds(), (("reflect", ()),))

    def test_many(self):
        desk = Desk(Web.shapes(2))
        for _ in range(50):
            desk.merge([[[0]], [[0]], [[0, 1]]])
            desk.split()
        self.assertEqual(desk.standing, 100)
        desk.undo(99)
        self.assertEqual((desk.standing, desk.parting.rows[2]), (1, ((0, 1),)))
        desk.undo()
        self.assertIs(desk.same_as(Desk(Web.shapes(2))), True)


class NewsTest(Errors, unittest.TestCase):
    def test_against_told_anew(self):
        seen = {}
        dice = random.Random(9)
        for desk in some_desks() + [Desk(Web([], sizes=[1]), Numbers([(1, 4), (0, 3)])) for _ in range(9)]:
            for _ in range(9):
                name, row = random_deed(dice, desk)
                under = desk.size_row[-2] if desk.top else 0
                q, r = desk.now.pair_at(desk.top)
                if desk.top >= 7 or (name in ("reflect", "tell") and not 0 <= q * under + r * desk.size_row[-1] <= 20):
                    continue
                before, ahead, many = desk.now, desk.parting, desk.standing
                try:
                    news = getattr(desk, name)(*row)
                except RanksError:
                    continue
                self.assertEqual(news, slow_news(name, before, desk.now, ahead, desk.parting))
                self.assertIs(type(news), tuple)
                self.assertTrue(all(type(one) is str for one in news))
                self.assertEqual(desk.standing, many + 1)
                self.assertEqual(desk.news_of(many), news)
                self.assertEqual(desk.deeds()[-1][0], name)
                for one in news:
                    seen[one.split(" ")[0]] = seen.get(one.split(" ")[0], 0) + 1
        self.assertEqual(set(seen), {"rank", "keeps", "unlike", "sizes", "lots", "writings", "ends"})
        self.assertGreater(min(seen.values()), 0)

    def test_each_sort(self):
        desk = Desk(Web([], sizes=[1]), Numbers([(1, 4), (1, 1)]))
        self.assertEqual(
            desk.lay(0), ("rank 1 size 4", "keeps 1 4", "sizes ahead at least 4", "lots 4", "writings 1")
        )
        self.assertEqual(len(slow_writings(need(desk.now))), 1)
        desk.undo()
        self.assertEqual(desk.lay(1), ("rank 1 size 1", "keeps 1 4", "sizes ahead at least 1", "writings 2"))
        self.assertEqual(desk.renumber(1, (1, -4)), ("writings 1", "ends"))
        self.assertEqual(desk.renumber(1, (1, -5)), ("sizes ahead at least 1",))
        self.assertEqual(desk.renumber(2, (1, 7)), ("sizes ahead at least 1",))
        self.assertEqual(desk.renumber(1, (0, 12)), ("sizes ahead at least 1", "writings 5"))
        self.assertEqual(desk.renumber(1, (0, 16)), ("sizes ahead at least 1", "writings 8"))
        self.assertEqual(desk.renumber(1, (0, 17)), ("sizes ahead at least 1",))
        self.assertEqual(desk.tell([[17]], [[1]]), ("rank 2 size 1", "keeps 0 17", "unlike", "sizes ahead at least 1"))
        self.assertEqual(desk.merge([[[0]], [[0]], [[0]]]), ())
        self.assertEqual(desk.split(), ())
        self.assertEqual([desk.news_of(n) for n in (0, 1)], [desk.news_of(0), ("writings 1", "ends")])

    def test_more_than_nine(self):
        self.assertEqual(writing_many(with_need([[8, 0], [0, 8]])), 9)
        desk = Desk(Web([], sizes=[2]), Numbers([(1, 1)]))
        self.assertEqual(desk.renumber(0, (1, 8)), ("sizes ahead at least 2", "writings 9"))
        wide = Desk(Web([], sizes=[3]), Numbers([(1, 1)]))
        self.assertEqual(writing_many(with_need([[5]])) ** 3, 8)
        self.assertEqual(wide.renumber(0, (1, 5)), ("sizes ahead at least 3", "writings 8"))
        pair = Desk(Web([[[1, 1]]]), Numbers([(1, 2)]))
        self.assertEqual(len(slow_writings([[8, 2], [2, 8]])), 12)
        self.assertEqual(pair.renumber(1, (2, 6)), ("sizes ahead at least 2", "writings 9+"))
        self.assertEqual(len(slow_writings([[8, 3], [3, 8]])), 8)
        self.assertEqual(pair.renumber(1, (3, 5)), ("sizes ahead at least 2", "writings 8"))

    def test_limits_of_writings(self):
        six, seven = Desk(Web([], sizes=[6]), Numbers([(1, 1)])), Desk(Web([], sizes=[7]), Numbers([(1, 1)]))
        self.assertEqual(six.renumber(0, (1, 2)), ("sizes ahead at least 6", "writings 1"))
        self.assertEqual(seven.renumber(0, (1, 2)), ("sizes ahead at least 7",))
        self.assertEqual(Desk(Web([], sizes=[4]), Numbers([])).renumber(0, (1, 4)), ("sizes ahead at least 4", "writings 16")[:1]
                         + ("writings 9+",))
        self.assertEqual(Desk(Web([], sizes=[1]), Numbers([])).renumber(0, (1, 16)), ("sizes ahead at least 1", "writings 8"))
        self.assertEqual(Desk(Web([], sizes=[1]), Numbers([])).renumber(0, (1, 17)), ("sizes ahead at least 1",))
        self.assertEqual(Desk(Web([], sizes=[1]), Numbers([])).renumber(0, (1, 0)), ("writings 1", "ends"))
        self.assertEqual(Desk(Web([], sizes=[1]), Numbers([])).renumber(0, (1, -1)), ("sizes ahead at least 1",))
        none = Desk(Web([], sizes=[0]), Numbers([]))
        self.assertEqual(none.renumber(0, (1, -3)), ("sizes ahead at least 0", "writings 1", "ends"))
        self.assertEqual(none.reflect() if none.stored[0][1] >= 0 else none.end(),
                         ("rank 1 size 0", "keeps 1 -3", "sizes ahead at least 0", "writings 1", "ends"))

    def test_numbers_refused(self):
        desk = Desk(Web.shapes(2))
        self.refused(BadNumber, {"name": "number"}, desk.news_of, 0)
        desk.split()
        for wrong in (-1, 1, True, None, "0"):
            self.refused(BadNumber, {"name": "number"}, desk.news_of, wrong)
        self.assertEqual(desk.news_of(0), ())


class AskedTest(Errors, unittest.TestCase):
    def test_answers(self):
        for desk, _ in busy_desks(5):
            kept = desk.now
            for n in range(desk.top + 1):
                desk.chosen = n
                for word in words_to(3) + WORDS:
                    self.assertEqual(desk.total(word), total(kept, n, word))
                    self.assertEqual(desk.total(word, n), total(kept, n, word))
                    self.assertEqual(desk.told(total=word), (total(kept, n, word),))
                    for place in places_at(kept.web, n)[:2]:
                        other = (min(max(n + rise(word), 0), desk.top), 0)
                        if kept.sizes[other[0]]:
                            self.assertEqual(desk.count(place, word, other), told_count(kept, place, word, other))
                for row in readings_of(n, kept.sizes[n])[-2:]:
                    if kept.numbers.lively_to(n):
                        self.assertEqual(desk.told(parts=row), (parts(kept, n, row),))
            self.assertEqual(desk.lots(), folded(desk.held, desk.parting))
            for n in range(desk.top):
                q_good = all(kept.pair_at(m)[0] >= 1 for m in range(1, n + 1))
                if kept.numbers.lively_to(n) and q_good:
                    self.assertEqual(desk.forget(n), kept.sizes[:n + 1])
                    self.assertEqual(desk.forget(n), sizes_beneath(kept.numbers, n, kept.above(n)))

    def test_sizes_ahead(self):
        for desk in some_desks():
            kept = desk.now
            for many in range(5):
                found = desk.sizes_ahead(many)
                self.assertEqual(len(found), many)
                for at, (least, most) in enumerate(found):
                    m = kept.top + 1 + at
                    self.assertEqual(least, kept.sizes[-1] if kept.numbers.lively_to(m) else 0)
                    if at == 0 and kept.web.is_even:
                        self.assertEqual(most, sum(row[x] for x, row in enumerate(need(kept))))
                    else:
                        self.assertIsNone(most)
                self.assertTrue(all(type(pair) is tuple for pair in found))
        below = Desk(Web([], sizes=[2]), Numbers([(1, -3)]))
        self.assertEqual(below.sizes_ahead(1), ((2, -6),))
        for many in (-1, True, None, "1"):
            self.refused(BadNumber, {"name": "many"}, below.sizes_ahead, many)

    def test_least_and_most_hold(self):
        for kept in even_kept():
            if kept.sizes[-1] > 4 or sum(row[x] for x, row in enumerate(need(kept))) > 14:
                continue
            (least, most), = Desk(kept.web, kept.numbers).sizes_ahead(1)
            for writing in writings(kept):
                self.assertLessEqual(least, len(writing))
                self.assertLessEqual(len(writing), most)

    def test_told(self):
        desk = Desk(Web.shapes(3), chosen=2)
        count, many = desk.count((1, 0), "ud", (1, 0)), desk.total("uudd")
        told = parts(desk.now, 2, (1, 2))
        self.assertEqual(desk.told(), ())
        self.assertEqual(
            desk.told(parts=[1, 2], total="uudd", count=[(1, 0), "ud", [1, 0]]), (count, many, told)
        )
        self.assertEqual(desk.told(parts=(1, 2), count=((1, 0), "ud", (1, 0))), (count, told))
        self.refused(BadDeed, {"word": "sum"}, desk.told, total=None, sum=5, more=6)
        self.refused(BadDeed, {"word": "more"}, desk.told, count=5, more=6, sum=5)
        for wrong in (None, 5, "udd", ((1, 0), "ud"), ((1, 0), "ud", (1, 0), 5), {}):
            self.refused(BadDeed, {"word": "count"}, desk.told, total=None, count=wrong)
        self.refused(BadPlace, {"rank": -1, "place": 5}, desk.told, total=None, count=(5, None, None))
        self.refused(BadWord, {"at": -1}, desk.told, parts=None, total=None)
        self.refused(BadReading, {"rank": 2}, desk.told, parts=[1], total="ud")
        falling = Desk(Web.subsets(3), Numbers.falling(3), chosen=3)
        self.refused(NotLively, {"start": 1, "steps": 2}, falling.told, parts=[1])

    def test_gates_and_lots_apart(self):
        for desk in some_desks():
            kept = desk.now
            for n in range(desk.top + 1):
                self.assertEqual(desk.gate_size(n, n), kept.sizes[n])
                self.assertEqual(desk.gate_size(n, desk.top) <= kept.sizes[n], True)
            if kept.lively:
                self.assertEqual(desk.apart(), desk.apart(1))
                self.assertEqual(desk.apart(), kept.sizes[-1])
                self.assertEqual(desk.apart(many=0), 0)
        falling = Desk(Web.subsets(3), Numbers.falling(3))
        self.assertEqual([falling.gate_size(1, m) for m in (1, 2, 3)], [3, 3, 1])
        self.refused(NotLively, {"start": 1, "steps": 2}, falling.apart)
        self.refused(NotLively, {"start": 1, "steps": 2}, falling.apart, 0)
        for many in (-1, True, None):
            self.refused(BadNumber, {"name": "many"}, falling.apart, many)
        for rank in (-1, 4, True, None):
            self.refused(BadRank, {"rank": rank}, falling.gate_size, rank, None)
        for other in (-1, 1, True, None, "3"):
            self.refused(BadRank, {"rank": other}, falling.gate_size, 2, other)
        self.refused(Unseen, {"rank": 4}, falling.gate_size, 2, 4)
        self.refused(Unseen, {"rank": 9}, falling.gate_size, 0, 9)

    def test_growth(self):
        desk = Desk(Web.shapes(3))
        growth = desk.shares((0, 0))
        self.assertIs(type(growth), Growth)
        self.assertEqual((growth.kept, growth.place), (desk.now, (0, 0)))
        self.refused(BadRank, {"rank": 4}, desk.shares, (4, 0))

    def test_refused(self):
        desk = Desk(Web.shapes(3))
        self.refused(BadPlace, {"rank": -1, "place": 5}, desk.count, 5, None, None)
        self.refused(BadWord, {"at": -1}, desk.count, (0, 0), None, None)
        self.refused(BadRank, {"rank": 4}, desk.count, (0, 0), "u", (4, 0))
        self.refused(BadWord, {"at": 1}, desk.total, "ux", 9)
        self.refused(BadWord, {"at": -1}, desk.total, None)
        for rank in (-1, 4, True, "1"):
            self.refused(BadRank, {"rank": rank}, desk.total, "ud", rank)
        for rank in (-1, 4, True, None):
            self.refused(BadRank, {"rank": rank}, desk.forget, rank)
        self.refused(Unseen, {"rank": 4}, desk.forget, 3)
        falling = Desk(Web.subsets(3).empty_rank(), Numbers.falling(3))
        self.refused(NotLively, {"start": 1, "steps": 2}, falling.forget, 3)
        self.refused(NotPositive, {"rank": 1}, Desk(Web.tree([2, 1]), Numbers([(0, 2), (0, 1)])).forget, 1)

    def test_same(self):
        desk = Desk(Web.shapes(2))
        self.assertIs(desk.same_as(Desk(Web.shapes(2), Numbers.steady(1, 1), chosen=2)), True)
        self.assertIs(desk.same_as(Desk(Web.shapes(3))), False)
        self.assertIs(desk.same_as(Desk(Web.shapes(2), Numbers.steady(1, 1).changed(5, (1, 2)))), False)
        other = Desk(Web.shapes(2))
        other.merge([[[0]], [[0]], [[0, 1]]])
        self.assertIs(desk.same_as(other), False)
        other.split()
        self.assertIs(desk.same_as(other), True)
        for one in (None, 5, desk.now, desk.held):
            self.assertIs(desk.same_as(one), False)


class PromisesTest(Errors, unittest.TestCase):
    def test_made_anew(self):
        for desk, _ in busy_desks():
            other = Desk(desk.held, desk.stored)
            other.merge(desk.parting.rows)
            self.assertIs(other.same_as(desk), True)
            self.assertEqual(answers(desk), answers(other))
            for chosen in range(desk.top + 1):
                desk.chosen = other.chosen = chosen
                self.assertEqual(chosen_answers(desk), chosen_answers(other))

    def test_told_ahead(self):
        seen = 0
        for desk in some_desks():
            top = desk.top
            told = {}
            for name, row in (("reflect", ()), ("lay", (0,)), ("end", ()), ("lay", (1,)), ("tell", ([[1]],))):
                if desk.top < 7 and desk.size_row[-1] <= 12 and (name != "reflect" or max(desk.stored[desk.top]) < 5):
                    before = self.lower_answers(desk, top)
                    told = told or before
                    self.assertEqual(before, told)
                    try:
                        getattr(desk, name)(*row)
                        seen += 1
                    except RanksError:
                        pass
            self.assertEqual(self.lower_answers(desk, top), told)
        self.assertGreater(seen, 40)

    def lower_answers(self, desk, top):
        """The answers about the ranks up to the top, and forget of the ranks beneath it."""
        found = {}
        for n in range(top + 1):
            for word in WORDS:
                found["total", word, n] = desk.total(word, n)
                for x in range(desk.size_row[n]):
                    if 0 <= n + rise(word) <= top:
                        for other in places_at(desk.held, n + rise(word)):
                            found["count", word, (n, x), other] = desk.count((n, x), word, other)
            desk.chosen = n
            if desk.stored.lively_to(n):
                found["parts", n] = desk.told(parts=tuple(range(desk.size_row[n])))
            if n < top:
                try:
                    found["forget", n] = desk.forget(n)
                except RanksError as fault:
                    found["forget", n] = (type(fault), vars(fault))
        return found

    def test_never_broken(self):
        seen = 0
        for desk, told in busy_desks():
            self.assertEqual([desk.news_of(n) for n in range(desk.standing)], told)
            self.assertEqual(folded_kept(desk.now, desk.parting).numbers, desk.stored)
            self.assertIs(is_fair(desk.held, desk.parting), True)
            if desk.stored.lively_to(desk.top):
                seen += 1
                sizes = desk.size_row
                self.assertEqual(list(sizes), sorted(sizes))
                for n in range(desk.top + 1):
                    self.assertEqual(desk.gate_size(n, desk.top), sizes[n])
                for k in range(desk.top + 3):
                    self.assertEqual(desk.apart(k), sum(sizes[max(0, desk.top + 1 - k):]))
                lots = desk.parting.lot_sizes()
                self.assertEqual(list(lots), sorted(lots))
        self.assertGreater(seen, 6)

    def test_laying_and_telling(self):
        seen = 0
        for kept in [with_need([[k]]) for k in range(1, 9)] + [with_need([[4, m], [m, 4]]) for m in range(4)] + [
                Kept(Web.shapes(2), Numbers.steady(1, 1)), Kept(Web.shapes(3), Numbers.steady(1, 1))]:
            told = list(writings(kept))
            desks = []
            for number, writing in enumerate(told):
                one, two = Desk(kept.web, kept.numbers), Desk(kept.web, kept.numbers)
                one.lay(number)
                two.tell([[column[x] for column in writing] for x in range(kept.sizes[-1])])
                self.assertIs(one.same_as(two), True)
                self.assertEqual(one.news_of(0), two.news_of(0))
                desks.append(one)
                seen += 1
            self.assertTrue(all(a.held != b.held for at, a in enumerate(desks) for b in desks[:at]))
        self.assertGreater(seen, 20)

    def test_exchanged(self):
        seen = 0
        for desk in some_desks():
            other = Desk(~desk.held, desk.stored)
            for n in range(desk.top + 1):
                for word in WORDS:
                    self.assertEqual(desk.total(word, n), other.total(word, n))
                    last = n + rise(word)
                    if 0 <= last <= desk.top:
                        for x in places_at(desk.held, n):
                            for y in places_at(desk.held, last):
                                self.assertEqual(other.count(x, word, y), desk.count(y, turned(word), x))
                                seen += 1
                for x in places_at(desk.held, n):
                    try:
                        growth = desk.shares(x)
                    except RanksError:
                        continue
                    back = other.shares(x)
                    for place in places_of(desk.held):
                        self.assertEqual(growth.ahead(place), back.back(place))
                        self.assertEqual(growth.back(place), back.ahead(place))
                        self.assertEqual(growth.share(place), back.share(place))
            for call in ("forget", "apart"):
                for many in range(desk.top):
                    found = []
                    for one in (desk, other):
                        try:
                            found.append(getattr(one, call)(many))
                        except RanksError as fault:
                            found.append((type(fault), vars(fault)))
                    self.assertEqual(found[0], found[1])
        self.assertGreater(seen, 1000)


if __name__ == "__main__":
    unittest.main()
