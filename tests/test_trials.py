import random
import unittest

from upsanddowns.desks import Desk
from upsanddowns.errors import BadDeed, NotKept, RanksError
from upsanddowns.numbers import Numbers
from upsanddowns.trials import Trial, tried
from upsanddowns.webs import Web

from tests.helpers import Errors, all_tuples
from tests.test_desks import random_deed, some_desks, state


class TrialTest(Errors, unittest.TestCase):
    def test_as_it_was(self):
        dice = random.Random(1)
        seen = 0
        for desk in some_desks():
            desk.merge([[[x] for x in range(size)] for size in desk.size_row])
            desk.split()
            desk.chosen = dice.randint(0, desk.top)
            before = state(desk)
            trial = Trial(desk)
            self.assertIs(trial.desk, desk)
            self.assertIs(trial.ended, False)
            with trial as inner:
                self.assertIs(inner, trial)
                self.assertIs(trial.ended, False)
                for _ in range(5):
                    name, row = random_deed(dice, desk)
                    if name in ("reflect", "tell") and (desk.top > 5 or max(desk.stored[desk.top]) > 3):
                        continue
                    try:
                        getattr(desk, name)(*row)
                        seen += 1
                    except RanksError:
                        pass
                desk.chosen = 0
                if dice.random() < 0.5:
                    desk.undo(min(desk.standing, dice.randint(1, 9)))
            self.assertIs(trial.ended, True)
            self.assertEqual(state(desk), before)
            self.assertEqual(desk.undo(2), ())
        self.assertGreater(seen, 60)

    def test_what_is_restored(self):
        desk = Desk(Web.shapes(2), chosen=1)
        desk.merge([[[0]], [[0]], [[0, 1]]])
        before = state(desk)
        with Trial(desk) as trial:
            desk.reflect()
            desk.renumber(5, (3, 4))
            desk.split()
            desk.chosen = 3
            desk.undo()
            self.assertEqual(desk.standing, 3)
            self.assertEqual(desk.stored[5], (3, 4))
        self.assertEqual(state(desk), before)
        self.assertEqual((desk.top, desk.chosen, desk.standing, desk.stored[5]), (2, 1, 1, (1, 1)))
        self.assertIs(trial.ended, True)
        # Taken back inside, behind the beginning of the block.
        with Trial(desk):
            desk.undo()
            self.assertEqual(desk.standing, 0)
        self.assertEqual(state(desk), before)

    def test_errors_are_passed_on(self):
        desk = Desk(Web.shapes(2))
        before = state(desk)
        trial = Trial(desk)
        with self.assertRaises(NotKept) as caught:
            with trial:
                desk.reflect()
                desk.choose(3)
                desk.end()
        self.assertEqual(caught.exception.rank, 3)
        self.assertEqual(state(desk), before)
        self.assertIs(trial.ended, True)
        with self.assertRaises(ZeroDivisionError):
            with trial:
                desk.reflect()
                self.assertIs(trial.ended, False)
                1 // 0
        self.assertEqual(state(desk), before)
        self.assertIs(trial.ended, True)

    def test_entered_again(self):
        desk = Desk(Web.shapes(1))
        trial = Trial(desk)
        with trial:
            desk.reflect()
        desk.reflect()
        desk.chosen = 2
        now = state(desk)
        with trial as inner:
            self.assertIs(inner, trial)
            self.assertIs(trial.ended, False)
            desk.reflect()
            desk.choose(0)
        self.assertEqual(state(desk), now)
        self.assertIs(trial.ended, True)

    def test_one_within_another(self):
        desk = Desk(Web.shapes(1))
        with Trial(desk):
            desk.reflect()
            now = state(desk)
            with Trial(desk):
                desk.reflect()
                desk.split()
            self.assertEqual(state(desk), now)
        self.assertEqual((desk.top, desk.standing), (1, 0))


class TriedTest(Errors, unittest.TestCase):
    def test_news(self):
        dice = random.Random(2)
        refused = 0
        for desk in some_desks():
            desk.split()
            before = state(desk)
            deeds, want = [], []
            with Trial(desk):
                for _ in range(5):
                    name, row = random_deed(dice, desk)
                    if name in ("reflect", "tell") and (desk.top > 5 or max(desk.stored[desk.top]) > 3):
                        continue
                    deeds.append([name, list(row)])
                    try:
                        want.append(getattr(desk, name)(*row))
                    except RanksError as fault:
                        want.append(("refused", type(fault).__name__))
                        refused += 1
                        break
            deeds += [("split", ()), ("undo", [])] if len(want) < len(deeds) else []
            found = tried(desk, deeds)
            self.assertEqual(found, tuple(want))
            self.assertTrue(all_tuples(found))
            self.assertEqual(tried(desk, tuple(deeds)), found)
            self.assertEqual(state(desk), before)
        self.assertGreater(refused, 5)

    def test_each_deed(self):
        desk = Desk(Web.shapes(1))
        deeds = [
            ("tell", [[[1, 1]]]), ("undo", ()), ("tell", ([[2]], [[1]])), ("undo", [1]), ("tell", [[[1, 1]], None]),
            ("merge", [[[[0]], [[0]], [[0, 1]]]]), ("split", []), ("renumber", [2, (1, 2)]), ("undo", (3,)),
            ("reflect", []), ("lay", [0]), ("undo", [2]), ("renumber", (2, (0, 0))), ("end", []),
        ]
        news = tried(desk, deeds)
        self.assertEqual(len(news), len(deeds))
        self.assertEqual(news[0], ("rank 2 size 2", "keeps 1 1", "sizes ahead at least 2", "lots 2", "writings 1"))
        self.assertEqual(news[1], ())
        self.assertEqual(news[2], ("rank 2 size 1", "keeps 1 1", "unlike", "sizes ahead at least 1"))
        self.assertEqual(news[5:7], (("lots 1",), ("lots 2",)))
        self.assertEqual(news[12:], (("writings 1", "ends"), ("rank 3 size 0", "keeps 0 0", "lots 0", "writings 1", "ends")))
        self.assertEqual((desk.top, desk.standing), (1, 0))

    def test_refused_deeds(self):
        desk = Desk(Web.shapes(1))
        desk.split()
        for deed, name in ((("tell", [5]), "BadTable"), (("tell", [[[1]], [[3]]]), "NotKept"), (("lay", [-1]), "BadNumber"),
                           (("lay", [9]), "NoneSuch"), (("end", []), "NotKept"), (("renumber", [0, (1, 1)]), "BadRank"),
                           (("renumber", [1, 5]), "BadNumbers"), (("merge", [None]), "BadParting"),
                           (("undo", [3]), "BadNumber"), (("undo", [0]), "BadNumber")):
            self.assertEqual(tried(desk, [("split", []), deed, ("split", [])]), ((), ("refused", name)))
            self.assertEqual((desk.top, desk.standing), (1, 1))
        self.assertEqual(tried(desk, [("split", []), ("undo", [2]), ("split", [])]), ((), (), ()))
        self.assertEqual(tried(desk, [("undo", []), ("undo", [])]), ((), ("refused", "BadNumber")))
        self.assertEqual(desk.standing, 1)
        uneven = Desk(Web([[[1]]], downs=[[[2]]]))
        self.assertEqual(tried(uneven, [("lay", [0])]), (("refused", "NotEven"),))
        self.assertEqual(tried(Desk(Web([], sizes=[1]), Numbers([(1, -1)])), [("reflect", [])]), (("refused", "NotPositive"),))
        self.assertEqual(tried(Desk(Web([], sizes=[1]), Numbers([(1, 400)])), [("lay", [0])]), (("refused", "TooMany"),))

    def test_nothing(self):
        desk = Desk(Web.shapes(1))
        self.assertEqual((tried(desk, []), tried(desk, ())), ((), ()))

    def test_bad_deeds(self):
        desk = Desk(Web.shapes(1))
        before = state(desk)
        for deeds in (None, 5, "split", {}):
            self.refused(BadDeed, {"word": ""}, tried, desk, deeds)
        for wrong in (None, 5, "split", (), ("split",), ("split", [], []), (5, []), (None, ()), ("split", None),
                      ("split", "ab"), ("lay", 5), (["split"], []), {}):
            self.refused(BadDeed, {"word": ""}, tried, desk, [("reflect", []), wrong, ("fold", [])])
        for name in ("fold", "", "Split", "count", "told", "choose", "told ", "__init__"):
            self.refused(BadDeed, {"word": name}, tried, desk, [("reflect", []), (name, []), (5, [])])
        for name, row in (("tell", []), ("tell", [1, 2, 3]), ("reflect", [1]), ("lay", []), ("lay", [0, 0]), ("end", [1]),
                          ("renumber", [1]), ("renumber", [1, (1, 1), 5]), ("merge", []), ("merge", [[], []]),
                          ("split", [[]]), ("undo", [1, 1])):
            self.refused(BadDeed, {"word": name}, tried, desk, [("reflect", []), (name, row), ("fold", [])])
        self.assertEqual(state(desk), before)

    def test_other_errors(self):
        # What is no error of the package is passed on, and the desk is as it was.
        class Broken(list):
            def __iter__(self):
                raise ZeroDivisionError

        desk = Desk(Web.shapes(1))
        before = state(desk)
        with self.assertRaises(ZeroDivisionError):
            tried(desk, [("reflect", []), ("merge", [Broken([1])])])
        self.assertEqual(state(desk), before)


if __name__ == "__main__":
    unittest.main()
