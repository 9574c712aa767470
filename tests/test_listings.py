import random
import unittest

from upsanddowns.desks import Desk
from upsanddowns.errors import BadRank, BadTable, BadWord
from upsanddowns.kept import Kept
from upsanddowns.listings import line_of, listing, table_text, words_text
from upsanddowns.needs import reflected
from upsanddowns.numbers import Numbers
from upsanddowns.totals import total
from upsanddowns.webs import Web

from tests.helpers import Errors, all_kept, heights_of, words_to
from tests.test_desks import busy_desks


class LinesTest(Errors, unittest.TestCase):
    def test_lines(self):
        for kept in all_kept():
            for n in range(kept.top + 1):
                want = f"rank {n}: size {kept.sizes[n]}"
                gain = kept.numbers.gain(0, n)
                if n < kept.top:
                    q, r = kept.pair_at(n)
                    s, t = [sum(sum(row) for row in table[n]) for table in (kept.web.ups, kept.web.downs)]
                    want += f", keeps {q} {r}, gain {gain}, up {s}, down {t}"
                else:
                    want += f", gain {gain}"
                found = line_of(kept, n)
                self.assertIs(type(found), str)
                self.assertEqual(found, want)

    def test_told(self):
        kept = Kept(Web([[[2]], [[1]]], downs=[[[3]], [[2]]]), Numbers([(1, 6), (2, -10)]))
        self.assertEqual(line_of(kept, 0), "rank 0: size 1, keeps 1 6, gain 0, up 2, down 3")
        self.assertEqual(line_of(kept, 1), "rank 1: size 1, keeps 2 -10, gain 6, up 1, down 2")
        self.assertEqual(line_of(kept, 2), "rank 2: size 1, gain 2")
        falling = Kept(Web.subsets(2).empty_rank(), Numbers.falling(2))
        self.assertEqual(line_of(falling, 2), "rank 2: size 1, keeps 1 -2, gain 2, up 0, down 0")
        self.assertEqual(line_of(falling, 3), "rank 3: size 0, gain 0")
        below = Kept(Web([[], []], sizes=[0, 0, 0]), Numbers([(1, -7), (0, -2)]))
        self.assertEqual(line_of(below, 1), "rank 1: size 0, keeps 0 -2, gain -7, up 0, down 0")
        self.assertEqual(line_of(below, 2), "rank 2: size 0, gain -2")
        many = 10 ** 12
        great = Kept(Web([[[many]]], downs=[[[many]]]), Numbers([(many, many ** 2)]))
        self.assertEqual(line_of(great, 0), f"rank 0: size 1, keeps {many} {many ** 2}, gain 0, up {many}, down {many}")
        for rank in (-1, 3, True, None, "0"):
            self.refused(BadRank, {"rank": rank}, line_of, kept, rank)

    def test_listings(self):
        for desk, _ in busy_desks(6):
            kept = desk.now
            found = listing(desk)
            self.assertIs(type(found), tuple)
            self.assertTrue(all(type(line) is str for line in found))
            word = "even" if desk.held.is_even else "unlike"
            self.assertEqual(found[0], f"web of {desk.top + 1} ranks, {word}")
            self.assertEqual(found[1:-2], tuple(line_of(kept, n) for n in range(desk.top + 1)))
            self.assertEqual(found[-2], "lots " + " ".join(str(many) for many in desk.parting.lot_sizes()))
            names = [name for name, _ in desk.deeds()] or ["none"]
            self.assertEqual(found[-1], "deeds " + " ".join(names))
        desk = Desk(Web([[[1]]], downs=[[[2]]]))
        desk.reflect()
        desk.split()
        desk.renumber(2, (0, -3))
        self.assertEqual(listing(desk), (
            "web of 3 ranks, unlike", "rank 0: size 1, keeps 1 2, gain 0, up 1, down 2",
            "rank 1: size 1, keeps 1 1, gain 2, up 3, down 2", "rank 2: size 2, gain 3", "lots 1 1 2",
            "deeds reflect split renumber",
        ))
        self.assertEqual(listing(Desk(Web([], sizes=[0]))), (
            "web of 1 ranks, even", "rank 0: size 0, gain 0", "lots 0", "deeds none",
        ))


class TablesTest(Errors, unittest.TestCase):
    def test_tables(self):
        self.assertEqual(table_text([[1, -20, 3], (100, 5, -6)]), ("  1 -20  3", "100   5 -6"))
        self.assertEqual(table_text(((7,),)), ("7",))
        self.assertEqual(table_text([]), ())
        self.assertEqual(table_text(()), ())
        self.assertEqual(table_text([[], ()]), ("", ""))
        self.assertEqual(table_text([[10 ** 12], [0]]), ("1000000000000", "            0"))
        dice = random.Random(1)
        for _ in range(50):
            rows, columns = dice.randint(1, 4), dice.randint(1, 4)
            table = [[dice.randint(-10 ** dice.randint(0, 5), 10 ** dice.randint(0, 5)) for _ in range(columns)]
                     for _ in range(rows)]
            found = table_text(table)
            widths = [max(len(str(row[y])) for row in table) for y in range(columns)]
            for row, line in zip(table, found):
                self.assertEqual(len(line), sum(widths) + columns - 1)
                self.assertEqual([int(one) for one in line.split()], row)
                at = 0
                for width, entry in zip(widths, row):
                    self.assertEqual(line[at:at + width], str(entry).rjust(width))
                    at += width + 1

    def test_refused(self):
        for wrong in (None, 5, "ab", {}, [5], [None], ["ab"], [[1], [1, 2]], [[1], 5], [[True]], [[None]], [["1"]], [[1.0]]):
            self.refused(BadTable, {"rank": 0, "side": "ups"}, table_text, wrong)


class WordsTest(Errors, unittest.TestCase):
    def test_words(self):
        for kept in all_kept():
            for n in range(kept.top + 1):
                words = words_to(3) + ["uuuudddd"]
                found = words_text(kept, n, words)
                self.assertIs(type(found), tuple)
                for word, line in zip(words, found):
                    row = heights_of(n, word)
                    height = "dips" if min(row) < 0 else str(max(row))
                    self.assertEqual(line, f"{word:<12} {height:>5} {total(kept, n, word):>12}")

    def test_told(self):
        kept = Kept(Web.shapes(2), Numbers.steady(1, 1))
        self.assertEqual(words_text(kept, 2, ("uudd", "", "ddd", "u")), (
            "uudd             4           14", "                 2            2",
            "ddd           dips            0", "u                3            0",
        ))
        self.assertEqual(words_text(kept, 1, []), ())
        long = "u" * 7 + "d" * 7
        self.assertEqual(words_text(kept, 0, [long]), (long + "     7         5040",))
        # What is longer is written whole.
        many = 10 ** 12
        great = Kept(Web([], sizes=[1]), Numbers.steady(1, many))
        self.assertEqual(words_text(great, 0, ["uudd"]), (f"uudd             2 {2 * many ** 2}",))
        self.assertEqual(reflected(kept).sizes, (1, 1, 2, 3))

    def test_refused(self):
        kept = Kept(Web.shapes(2), Numbers.steady(1, 1))
        for rank in (-1, 3, True, None):
            self.refused(BadRank, {"rank": rank}, words_text, kept, rank, None)
        for words in (None, "ud", 5, {}):
            self.refused(BadWord, {"at": -1}, words_text, kept, 1, words)
        self.refused(BadWord, {"at": -1}, words_text, kept, 1, ["ud", None, "x"])
        self.refused(BadWord, {"at": 2}, words_text, kept, 1, ["ud", "udx", "x"])


if __name__ == "__main__":
    unittest.main()
