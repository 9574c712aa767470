import unittest

from upsanddowns.errors import BadNumber, NotKept
from upsanddowns.kept import Kept
from upsanddowns.makers import chain
from upsanddowns.numbers import Numbers
from upsanddowns.webs import Web

from tests.helpers import Errors, MIXED
from tests.test_numbers import ROWS


class ChainTest(Errors, unittest.TestCase):
    def test_tables(self):
        web = chain(Numbers([(1, 2), (3, 1), (1, 4)]), 0, 3)
        self.assertEqual(web, Web([[[1]]] * 3, downs=[[[2]], [[7]], [[11]]]))
        self.assertEqual(chain(Numbers([(1, 2), (3, 1), (1, 4)]), 2, 4).sizes, (0, 0, 1, 1, 1))
        self.assertEqual(chain(Numbers([]), 0, 0), Web([], sizes=[1]))
        self.assertEqual(chain(Numbers([]), 3, 3), Web([[], [], []], sizes=[0, 0, 0, 1]))

    def test_against_the_words(self):
        for numbers in ROWS + [MIXED]:
            for start in range(4):
                for top in range(start, start + 5):
                    web = chain(numbers, start, top)
                    last = start
                    while last < top and numbers.gain(start, last + 1 - start) > 0:
                        last += 1
                    self.assertEqual(web.sizes, tuple(int(start <= n <= last) for n in range(top + 1)))
                    for n in range(start, last):
                        self.assertEqual((web.ups[n], web.downs[n]), (((1,),), ((numbers.gain(start, n + 1 - start),),)))

    def test_which_ones_keep(self):
        kept = 0
        for numbers in ROWS + [MIXED, Numbers([(1, 2), (1, -3)]), Numbers([(1, 2), (2, -4), (1, 5)])]:
            for start in range(4):
                for top in range(start, start + 5):
                    low = [k for k in range(1, top - start + 1) if numbers.gain(start, k) <= 0]
                    web = chain(numbers, start, top)
                    if not low or numbers.gain(start, low[0]) == 0:
                        Kept(web, numbers)
                        kept += 1
                    else:
                        self.refused(
                            NotKept, {"rank": start + low[0] - 1, "first": 0, "second": 0}, Kept, web, numbers
                        )
        self.assertGreater(kept, 20)

    def test_ends_at_a_gain_of_0(self):
        web = chain(Numbers.falling(3), 0, 5)
        self.assertEqual(web.sizes, (1, 1, 1, 1, 0, 0))
        self.assertEqual(web.downs[:3], (((3,),), ((4,),), ((3,),)))

    def test_refused(self):
        for one in (-1, True, None, "1"):
            self.refused(BadNumber, {"name": "start"}, chain, Numbers([]), one, None)
            self.refused(BadNumber, {"name": "top"}, chain, Numbers([]), 0, one)
        self.refused(BadNumber, {"name": "top"}, chain, Numbers([]), 2, 1)


if __name__ == "__main__":
    unittest.main()
