import unittest

from upsanddowns.errors import BadForm, BadText
from upsanddowns.texts import web_from, web_text
from upsanddowns.webs import Web

from tests.helpers import Errors, all_kept, any_webs, random_web


class WritingTest(unittest.TestCase):
    def test_even(self):
        self.assertEqual(
            web_text(Web([[[1, 2]], [[0], [12]]])),
            "rank 0 size 1\nrank 1 size 2\nup 0 0 1\nup 0 1 2\nrank 2 size 1\nup 1 0 12",
        )

    def test_unlike(self):
        web = Web([[[0, 2], [1, 0]]], downs=[[[5, 0], [0, 3]]])
        text = "unlike\nrank 0 size 2\nrank 1 size 2\nup 0 1 2\nup 1 0 1\ndown 0 0 5\ndown 1 1 3"
        self.assertEqual(web_text(web), text)

    def test_without_places(self):
        self.assertEqual(web_text(Web([], sizes=[0])), "rank 0 size 0")
        self.assertEqual(web_text(Web([[]], sizes=[0, 11])), "rank 0 size 0\nrank 1 size 11")

    def test_there_and_back(self):
        for web in any_webs() + [kept.web for kept in all_kept()]:
            self.assertEqual(web_from(web_text(web)), web)

    def test_many_digits(self):
        for digits in (1, 59, 60, 61, 119, 120, 121, 4000, 4400):
            for number in (10 ** digits, 10 ** digits - 1, 10 ** digits + 12345):
                web = Web([[[number]]], downs=[[[number + 1]]])
                self.assertEqual(web_from(web_text(web)), web)
        self.assertEqual(web_text(Web([[[10 ** 61 + 5]]])).split("\n")[2], "up 0 0 1" + "0" * 60 + "5")


class ReadingTest(Errors, unittest.TestCase):
    def bad(self, line, text):
        error = self.refused(BadText, {"line": line}, web_from, text)
        if line > 0:
            self.assertIsInstance(error.__cause__, BadForm)

    def test_empty_lines(self):
        text = "\n\nrank 0 size 1\n\nrank 1 size 1\n\n\nup 0 0 3\n"
        self.assertEqual(web_from(text), Web([[[3]]]))
        self.assertEqual(web_from("\nunlike\n\nrank 0 size 1\n"), Web([], sizes=[1]))

    def test_lines_in_any_order(self):
        text = "unlike\nrank 0 size 1\nrank 1 size 2\ndown 0 1 4\nup 0 1 2\ndown 0 0 3\nup 0 0 1\nrank 2 size 0"
        self.assertEqual(web_from(text), Web([[[1, 2]], [[], []]], downs=[[[3, 4]], [[], []]]))

    def test_unlike_may_be_even(self):
        text = "unlike\nrank 0 size 1\nrank 1 size 1\nup 0 0 2\ndown 0 0 2"
        self.assertEqual(web_from(text), Web([[[2]]]))
        self.assertEqual(web_from("unlike\nrank 0 size 1\nrank 1 size 1\nup 0 0 2"), Web([[[2]]], downs=[[[0]]]))

    def test_no_string_and_no_rank(self):
        for text in (None, 5, b"rank 0 size 1", ["rank 0 size 1"], "", "\n\n", "unlike", "\nunlike\n"):
            self.bad(0, text)

    def test_no_such_line(self):
        for line in (" ", "x", "Rank 0 size 1", "rank", "rank 0", "rank 0 size", "rank 0 size 1 ", " rank 0 size 1",
                     "rank  0 size 1", "rank 0 sizes 1", "rank 0 size 1\r", "rank\t0 size 1", "rank 0 size 01",
                     "rank 00 size 1", "rank +0 size 1", "rank 0 size -1", "rank 0 size +1", "rank 0 size 1.0",
                     "rank 0 size 1_0", "rank 0 size \u0661", "rank 0 size \u00b2", "rank 0 size ", "unlike ",
                     " unlike", "Unlike", "unlike unlike", "rank 0 size 1 2", "ranks 0 size 1", "rank 1 size 1"):
            self.bad(1, line)
            self.bad(3, "\n\n" + line + "\nrank 0 size 1")

    def test_ranks_in_order(self):
        self.bad(2, "rank 0 size 1\nrank 0 size 1")
        self.bad(2, "rank 0 size 1\nrank 2 size 1")
        self.bad(3, "rank 0 size 1\n\nrank 18446744073709551616 size 1")
        self.bad(2, "rank 0 size 1\nrank 1 size")

    def test_unlike_first_and_once(self):
        self.bad(2, "unlike\nunlike\nrank 0 size 1")
        self.bad(3, "unlike\n\nunlike")
        self.bad(2, "rank 0 size 1\nunlike")

    def test_strands_ahead_of_rank_1(self):
        self.bad(1, "up 0 0 1")
        self.bad(2, "rank 0 size 1\nup 0 0 1\nrank 1 size 1")
        self.bad(2, "unlike\ndown 0 0 1")
        self.bad(3, "unlike\nrank 0 size 1\ndown 0 0 1\nrank 1 size 1")

    def test_strands(self):
        start = "rank 0 size 2\nrank 1 size 3\n"
        for line in ("up 2 0 1", "up 0 3 1", "up 0 0 0", "up 0 0", "up 0 0 1 1", "up -1 0 1", "up 0 00 1", "up 0 0 x",
                     "up 0 0 01", "up", "up  0 0 1", "UP 0 0 1", "down 0 0 1", "down 0 0 0", "ups 0 0 1", "up 0 0 \u0661"):
            self.bad(3, start + line)
            self.bad(5, "\n" + start + "up 1 1 1\n" + line)
        self.bad(4, start + "up 0 0 1\nup 0 0 2")
        self.assertEqual(web_from(start + "up 1 2 1").ups, (((0, 0, 0), (0, 0, 1)),))
        self.bad(5, "unlike\n" + start + "down 1 2 1\ndown 1 2 1")
        self.bad(4, "unlike\n" + start + "down 2 0 1")
        for line in ("downs 0 0 1", "ups 0 0 1", "Down 0 0 1", "side 0 0 1", " 0 0 1", "0 0 1"):
            self.bad(4, "unlike\n" + start + line)
        self.assertEqual(
            web_from("unlike\n" + start + "down 1 2 1\nup 1 2 1"), Web([[[0, 0, 0], [0, 0, 1]]], sizes=[2, 3])
        )
        self.bad(3, "rank 0 size 0\nrank 1 size 1\nup 0 0 1")
        again = "rank 0 size 1\nrank 1 size 1\nup 0 0 1\nrank 2 size 1\nup 0 0 1"
        self.assertEqual(web_from(again), Web([[[1]], [[1]]]))

    def test_first_bad_line(self):
        self.bad(2, "rank 0 size 1\nx\ny")
        self.bad(1, "x")

    def test_cut_texts_are_refused_or_read(self):
        text = web_text(random_web(9, [2, 2, 2]))
        for end in range(len(text)):
            try:
                web = web_from(text[:end])
            except BadText as error:
                self.assertTrue(error.line == 0 or error.line == text[:end].count("\n") + 1)
            else:
                self.assertIsInstance(web, Web)


if __name__ == "__main__":
    unittest.main()
