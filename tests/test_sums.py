"""Promise 26: sums and doers of a line."""

import random
import unittest

from driving import drive, run_wish
from oneslate.audit import does
from oneslate.houses import House
from oneslate.lines import line_of
from oneslate.sums import doers, sum_of
from samples import HALLS

THREE = ((2, (0, 1, 2)), (2, (0, 1, 2)))
NEXT = ((2, (3, 4, 5)), (2, (3, 4, 5)))


class SumsTest(unittest.TestCase):

    def test_no_links(self):
        self.assertEqual(repr(sum_of([], "a")), "0")
        self.assertEqual(doers([]), [])

    def test_by_hand(self):
        house = House(THREE, 4)
        rows = [
            (2, ("add", "a", 5)), (0, ("put", "b", -3)), (2, ("add", "a", 10 ** 59)), (0, ("move", NEXT)), (1, None),
            (2, ("swap", "b", 9, 9)), (2, ("put", "c", 4)), (2, ("put", "c", 0)),
        ]
        for asker, deed in rows:
            run_wish(house, asker, deed)
        line = line_of(house.record(), THREE)
        before = repr(line)
        self.assertEqual(sum_of(line, "a"), 10 ** 59 + 5)
        self.assertEqual([sum_of(line, name) for name in ("b", "c", "ab", "zz")], [-3, 0, 0, 0])
        self.assertEqual(repr(doers(line)), repr([(0, 2), (2, 5)]))
        self.assertEqual(sum_of(line[:1], "a"), 5)
        self.assertEqual(doers(line[:2]), [(0, 1), (2, 1)])
        self.assertEqual(doers(line[:1]), [(2, 1)])
        self.assertEqual(repr(line), before)
        doers(line).clear()
        self.assertEqual(doers(line), [(0, 2), (2, 5)])

    def test_behind_an_end(self):
        house = House(THREE, 2)
        run_wish(house, 1, ("add", "a", 5))
        run_wish(house, 1, ("end",))
        self.assertEqual(run_wish(house, 0, ("add", "a", 5)), ("over", None))
        line = line_of(house.record(), THREE)
        self.assertEqual((sum_of(line, "a"), doers(line)), (5, [(1, 2)]))

    def test_driven_houses(self):
        for seed in range(40):
            drawn = random.Random(seed)
            hall = drawn.choice(HALLS)
            house = House(hall, 5)
            drive(house, drawn, 5, 300)
            line = line_of(house.record(), hall)
            done = [does(line, place)[0] for place in range(len(line)) if does(line, place)]
            self.assertEqual(doers(line), [(asker, done.count(asker)) for asker in range(5) if asker in done])
            for name in ("a", "b", "ab", "c"):
                self.assertEqual(sum_of(line, name), dict(line[-1][5][0]).get(name, 0) if line else 0)


if __name__ == "__main__":
    unittest.main()
