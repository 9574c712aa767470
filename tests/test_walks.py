import unittest

from upsanddowns.errors import BadNumber, BadPlace, BadRank, BadReading, BadWalk, BadWord, TooMany, Unseen
from upsanddowns.joins import exchanged
from upsanddowns.walks import count, counts, lowered, raised, walk_back, walks_of
from upsanddowns.webs import Web
from upsanddowns.words import climb, dips, rise, turned

from tests.helpers import (
    Errors, all_tuples, any_webs, places_at, places_of, random_web, slow_walks, stays, words_to,
)


class CountingTest(Errors, unittest.TestCase):
    def test_against_slow_walks(self):
        for web in any_webs():
            for place in places_of(web):
                for word in words_to(4):
                    if stays(web, place[0], word):
                        self.check_counts(web, place, word)

    def check_counts(self, web, place, word):
        last = place[0] + rise(word)
        found = slow_walks(web, place, word)
        row = [0] * web.sizes[last]
        for walk in found:
            row[walk[-1][2] if walk else place[1]] += 1
        self.assertEqual(counts(web, place, word), tuple(row))
        for other in places_at(web, last):
            self.assertEqual(count(web, place, word, other), row[other[1]])
        listed = list(walks_of(web, place, word, limit=10 ** 9))
        self.assertEqual(sorted(listed, key=lambda walk: [(step[2], step[1]) for step in walk]), listed)
        self.assertEqual(sorted(listed), sorted(found))
        self.assertEqual(len(listed), sum(row))
        self.assertTrue(all_tuples(tuple(listed)))

    def test_empty_word(self):
        web = random_web(2, [2, 3])
        self.assertEqual(counts(web, (1, 2), ""), (0, 0, 1))
        self.assertEqual(count(web, [1, 2], "", [1, 2]), 1)
        self.assertEqual(count(web, (1, 2), "", (1, 1)), 0)
        self.assertEqual(list(walks_of(web, (1, 2), "")), [()])

    def test_other_rank(self):
        web = Web.shapes(3)
        self.assertEqual(count(web, (1, 0), "u", (1, 0)), 0)
        self.assertEqual(count(web, (1, 0), "uuuu", (0, 0)), 0)
        self.assertEqual(count(web, (0, 0), "uuuud", (1, 0)), 0)

    def test_dipping_words(self):
        web = Web.shapes(2)
        self.assertEqual(count(web, (0, 0), "du", (0, 0)), 0)
        self.assertEqual(count(web, (1, 0), "dduuuuud", (2, 1)), 0)
        self.assertEqual(count(web, (1, 0), "dduu", (2, 1)), 0)
        self.assertEqual(count(web, (0, 0), "duuuudd", (1, 0)), 0)
        self.assertEqual(counts(web, (0, 0), "du"), (0,))
        self.assertEqual(counts(web, (0, 0), "duuu"), (0, 0))
        self.assertEqual(counts(web, (0, 0), "d"), ())
        self.assertEqual(counts(web, (1, 0), "uuuuudddddddd"), ())
        self.assertEqual(counts(web, (0, 0), "duuuuudd"), (0, 0))
        self.refused(Unseen, {"rank": 3}, counts, web, (0, 0), "duuuu")
        self.refused(Unseen, {"rank": 4}, counts, web, (0, 0), "duuuuud")
        for word in ("d", "du", "duuuuuu", "uuuuudddddddd"):
            self.assertEqual(list(walks_of(web, (0, 0), word)), [])

    def test_words_that_climb_above(self):
        web = Web.shapes(2)
        self.refused(Unseen, {"rank": 4}, counts, web, (2, 0), "uudd")
        self.refused(Unseen, {"rank": 4}, count, web, (2, 0), "uudd", (2, 1))
        self.refused(Unseen, {"rank": 3}, counts, web, (1, 0), "uu")
        self.refused(Unseen, {"rank": 3}, counts, web, (2, 1), "dduuu")
        self.refused(Unseen, {"rank": 4}, lambda: next(walks_of(web, (2, 0), "uudd")))
        self.assertEqual(counts(web, (1, 0), "ud"), (2,))

    def test_words_joined(self):
        web = random_web(12, [2, 3, 2, 3])
        for place in places_of(web):
            for v in words_to(3):
                for w in words_to(3):
                    if stays(web, place[0], v + w):
                        last = place[0] + rise(v + w)
                        total = [0] * web.sizes[last]
                        for z in places_at(web, place[0] + rise(v)):
                            for y in range(web.sizes[last]):
                                total[y] += count(web, place, v, z) * count(web, z, w, (last, y))
                        self.assertEqual(counts(web, place, v + w), tuple(total))

    def test_great_strands(self):
        many = 10 ** 12
        web = Web([[[many, 0, 1]], [[0, 0], [1, 0], [0, 2]]], downs=[[[1, 1, 0]], [[1, 1], [1, 1], [1, many]]])
        self.assertEqual(counts(web, (0, 0), "uu"), (0, 2))
        self.assertEqual(list(walks_of(web, (0, 0), "uu")), [
            (("u", 0, 2), ("u", 0, 1)), (("u", 0, 2), ("u", 1, 1)),
        ])
        self.assertEqual(count(web, (0, 0), "uud", (1, 2)), 2 * many)
        walks = walks_of(web, (0, 0), "uud", limit=10 ** 30)
        self.assertEqual(next(walks), (("u", 0, 2), ("u", 0, 1), ("d", 0, 0)))

    def test_limit(self):
        web = Web([[[3]]])
        for call in (lambda: list(walks_of(web, (0, 0), "u", limit=2)), lambda: next(walks_of(web, (0, 0), "u", limit=2))):
            self.refused(TooMany, {"limit": 2}, call)
        self.assertEqual(len(list(walks_of(web, (0, 0), "u", limit=3))), 3)
        self.assertEqual(len(list(walks_of(Web([[[500]]]), (0, 0), "u"))), 500)
        self.refused(TooMany, {"limit": 500}, lambda: list(walks_of(Web([[[501]]]), (0, 0), "u")))
        self.assertEqual(list(walks_of(Web([[[0]]]), (0, 0), "u", limit=0)), [])
        self.refused(TooMany, {"limit": 0}, lambda: list(walks_of(web, (0, 0), "", limit=0)))

    def test_refused(self):
        web = Web.shapes(2)
        calls = [
            lambda place, word: count(web, place, word, 5),
            lambda place, word: counts(web, place, word),
            lambda place, word: list(walks_of(web, place, word, limit=-1)),
            lambda place, word: walk_back(web, place, word, 5),
        ]
        for call in calls:
            for place in (None, 3, "00", (0,), (0, 0, 0), [], {0: 0, 1: 1}):
                self.refused(BadPlace, {"rank": -1, "place": place}, call, place, "x")
            for rank in (-1, 3, True, None, "0"):
                self.refused(BadRank, {"rank": rank}, call, (rank, 7), "x")
            for number in (-1, 2, True, None, "0"):
                self.refused(BadPlace, {"rank": 2, "place": number}, call, [2, number], "x")
            self.refused(BadWord, {"at": 1}, call, (0, 0), "ux")
            self.refused(BadWord, {"at": -1}, call, (0, 0), None)
        self.refused(BadPlace, {"rank": -1, "place": 5}, count, web, (0, 0), "uuuu", 5)
        self.refused(BadRank, {"rank": 3}, count, web, (0, 0), "uuu", (3, 0))
        self.refused(BadPlace, {"rank": 1, "place": 1}, count, web, (0, 0), "uuuu", (1, 1))
        for limit in (-1, True, None, "5", 1.5):
            self.refused(BadNumber, {"name": "limit"}, lambda: list(walks_of(web, (0, 0), "uuuu", limit=limit)))
            self.refused(BadNumber, {"name": "limit"}, lambda: list(walks_of(web, (0, 0), "d", limit=limit)))

    def test_errors_come_with_the_first_item(self):
        walks_of(Web.shapes(2), None, None, limit=None)


class BackTest(Errors, unittest.TestCase):
    def test_walks_read_backward(self):
        for web in any_webs():
            other = exchanged(web)
            for place in places_of(web):
                for word in words_to(3):
                    if stays(web, place[0], word):
                        self.check_back(web, other, place, word)

    def check_back(self, web, other, place, word):
        last = place[0] + rise(word)
        seen = set()
        for walk in walks_of(web, place, word, limit=10 ** 9):
            end = (last, walk[-1][2] if walk else place[1])
            back = walk_back(web, place, word, walk)
            self.assertIn(back, list(walks_of(other, end, turned(word), limit=10 ** 9)))
            self.assertEqual(walk_back(other, end, turned(word), back), walk)
            seen.add((end, back))
        self.assertEqual(len(seen), sum(counts(web, place, word)))
        for end in places_at(web, last):
            self.assertEqual(count(web, place, word, end), count(other, end, turned(word), place))

    def test_steps(self):
        web = Web([[[2, 3]]], downs=[[[1, 4]]])
        self.assertEqual(walk_back(web, [0, 0], "ud", [["u", 2, 1], ["d", 3, 0]]), (("u", 3, 1), ("d", 2, 0)))
        self.assertEqual(walk_back(web, (0, 0), "", []), ())

    def test_bad_walks(self):
        web = Web([[[2, 3]]], downs=[[[1, 4]]])
        good = [("u", 2, 1), ("d", 3, 0)]
        for walk in (None, 5, "ud", {}, iter(good)):
            self.refused(BadWalk, {"at": -1}, walk_back, web, (0, 0), "ud", walk)
        wrong = [None, 5, "u", (), ("u", 2), ("u", 2, 1, 0), ("d", 2, 1), ("u", 3, 1), ("u", -1, 1), ("u", 0, 2),
                 ("u", 0, -1), ("u", True, 1), ("u", 0, True), ("u", None, 1), ("u", 0, None), (0, "u", 1), {}]
        for step in wrong:
            self.refused(BadWalk, {"at": 0}, walk_back, web, (0, 0), "ud", [step, None])
        for step in (("d", 4, 0), ("d", 0, 1), ("u", 0, 0), ("d", -1, 0), None):
            self.refused(BadWalk, {"at": 1}, walk_back, web, (0, 0), "ud", (good[0], step))
        self.refused(BadWalk, {"at": 1}, walk_back, web, (0, 0), "ud", (("u", 0, 0), ("d", 1, 0)))
        self.refused(BadWalk, {"at": 0}, walk_back, web, (0, 0), "ud", [])
        self.refused(BadWalk, {"at": 1}, walk_back, web, (0, 0), "ud", good[:1])
        self.refused(BadWalk, {"at": 2}, walk_back, web, (0, 0), "ud", good + [5])
        self.refused(BadWalk, {"at": 1}, walk_back, web, (0, 0), "ud", [good[0], None, None])

    def test_dipping_and_unseen(self):
        web = Web([[[2, 3]]], downs=[[[1, 4]]])
        self.refused(BadWalk, {"at": 0}, walk_back, web, (0, 0), "du", [("d", 0, 0), ("u", 0, 0)])
        self.refused(BadWalk, {"at": 1}, walk_back, web, (1, 0), "ddu", [("d", 0, 0)])
        self.refused(BadWalk, {"at": 1}, walk_back, web, (1, 0), "ddu", [("d", 0, 0), ("d", 0, 0), ("u", 0, 0)])
        self.refused(Unseen, {"rank": 2}, walk_back, web, (0, 0), "uu", 5)
        self.refused(Unseen, {"rank": 2}, walk_back, web, (0, 0), "duuu", 5)

    def test_nothing_is_changed(self):
        web = Web([[[2, 3]]])
        walk, place = [["u", 2, 1]], [0, 0]
        walk_back(web, place, "u", walk)
        list(walks_of(web, place, "u"))
        count(web, place, "u", [1, 0])
        self.assertEqual((walk, place), ([["u", 2, 1]], [0, 0]))


class ReadingsTest(Errors, unittest.TestCase):
    web = Web([[[1, 2]], [[1], [0]]], downs=[[[3, 4]], [[5], [6]]])

    def test_raised(self):
        self.assertEqual(raised(self.web, 0, [3]), (3, 6))
        self.assertEqual(raised(self.web, 1, (-2, 7)), (-2,))
        self.assertEqual(raised(Web([[]], sizes=[0, 2]), 0, []), (0, 0))
        self.assertEqual(raised(Web([[[], []]]), 0, [1, 2]), ())

    def test_lowered(self):
        self.assertEqual(lowered(self.web, 0, [3]), ())
        self.assertEqual(lowered(self.web, 1, (1, -2)), (-5,))
        self.assertEqual(lowered(self.web, 2, [2]), (10, 12))
        self.assertEqual(lowered(Web([[[], []]]), 1, ()), (0, 0))

    def test_they_are_counts(self):
        for web in any_webs():
            for rank, x in places_of(web):
                one = [int(x == y) for y in range(web.sizes[rank])]
                if rank < web.top:
                    self.assertEqual(raised(web, rank, one), counts(web, (rank, x), "u"))
                self.assertEqual(lowered(web, rank, one), counts(web, (rank, x), "d"))

    def test_refused(self):
        for call in (raised, lowered):
            for rank in (-1, 3, True, None):
                self.refused(BadRank, {"rank": rank}, call, self.web, rank, 5)
            for reading in (None, 5, "ab", [1], [1, 2, 3], [1, True], [1, None], {0: 1, 1: 2}):
                self.refused(BadReading, {"rank": 1}, call, self.web, 1, reading)
            self.refused(BadReading, {"rank": 2}, call, self.web, 2, [])
        self.refused(Unseen, {"rank": 3}, raised, self.web, 2, [1])


if __name__ == "__main__":
    unittest.main()
