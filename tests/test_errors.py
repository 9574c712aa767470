import unittest

from upsanddowns import errors

FORMS = {
    "BadNumber": ["name"], "BadTable": ["rank", "side"], "BadSize": ["rank"], "BadRank": ["rank"],
    "BadPlace": ["rank", "place"], "BadWord": ["at"], "BadReading": ["rank"], "BadNumbers": ["at"],
    "BadShare": ["name"], "BadRule": ["rank"], "BadFilling": ["at"], "BadWalk": ["at"],
    "BadLot": ["at"], "BadParting": ["rank"], "BadSymmetry": ["rank"], "BadDeed": ["word"],
    "BadText": ["line"],
}
NEEDS = {
    "Unseen": ["rank"], "NotKept": ["rank", "first", "second"], "NotEven": ["rank"],
    "NotBalanced": ["rank"], "NotLively": ["start", "steps"], "NotPositive": ["rank"],
    "NotFresh": ["rank", "place"], "NotFair": ["rank", "first", "second"], "NoneSuch": ["rank"],
    "TooMany": ["limit"],
}


class ErrorsTest(unittest.TestCase):
    def check(self, base, rows):
        for name, words in rows.items():
            error = getattr(errors, name)
            self.assertEqual(error.__bases__, (base,), msg=name)
            values = [object() for _ in words]
            self.assertEqual(vars(error(*values)), dict(zip(words, values)), msg=name)
            self.assertEqual(vars(error(**dict(zip(words, values)))), dict(zip(words, values)), msg=name)

    def test_forms(self):
        self.check(errors.BadForm, FORMS)

    def test_needs(self):
        self.check(errors.UnmetNeed, NEEDS)

    def test_bases(self):
        self.assertEqual(errors.RanksError.__bases__, (Exception,))
        self.assertEqual(errors.BadForm.__bases__, (errors.RanksError,))
        self.assertEqual(errors.UnmetNeed.__bases__, (errors.RanksError,))

    def test_raised_and_caught(self):
        with self.assertRaises(errors.UnmetNeed) as caught:
            raise errors.NotKept(1, 2, 3)
        self.assertEqual((caught.exception.rank, caught.exception.first, caught.exception.second), (1, 2, 3))


if __name__ == "__main__":
    unittest.main()
