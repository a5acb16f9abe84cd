"""Promise 15: what an asker takes of the grants that count."""

import itertools
import unittest

from oneslate.choosing import all_alike, granters, highest
from oneslate.slates import blank, with_cell

OPENING = with_cell(blank(), "o", 9)
SLATES = {(0, 0): None}
for number, one in enumerate([(1, 0), (1, 5), (2, 0), (2, 3), (10, 1)], start=1):
    SLATES[one] = with_cell(blank(), "a", number)


def grants_of(stamps):
    return [(keeper, stamp, SLATES[stamp]) for keeper, stamp in enumerate(stamps)]


class HighestTest(unittest.TestCase):

    def test_none_kept(self):
        for many in range(1, 7):
            grants = [(keeper, (0, 0), None) for keeper in range(many)]
            self.assertEqual(repr(highest(grants, OPENING)), repr(((0, 0), OPENING)))
            self.assertEqual(repr(highest(grants, blank())), repr(((0, 0), blank())))

    def test_one_alone(self):
        for stamp in SLATES:
            told = (stamp, OPENING if stamp == (0, 0) else SLATES[stamp])
            self.assertEqual(repr(highest(grants_of([stamp]), OPENING)), repr(told))

    def test_several_with_none_among_them(self):
        for stamps in itertools.product(SLATES, repeat=3):
            top = max(stamps, key=lambda stamp: stamp[0] * 10 + stamp[1])
            told = (top, OPENING if top == (0, 0) else SLATES[top])
            self.assertEqual(repr(highest(grants_of(stamps), OPENING)), repr(told))

    def test_the_keepers_number_does_not_count(self):
        self.assertEqual(highest([(5, (1, 0), SLATES[(1, 0)]), (0, (2, 0), SLATES[(2, 0)])], OPENING)[0], (2, 0))
        self.assertEqual(highest([(5, (2, 0), SLATES[(2, 0)]), (0, (1, 5), SLATES[(1, 5)])], OPENING)[0], (2, 0))

    def test_the_grants_handed_in_stay_as_they_were(self):
        grants = grants_of([(2, 0), (1, 5), (0, 0)])
        before = repr(grants)
        highest(grants, OPENING)
        all_alike(grants)
        granters(grants)
        self.assertEqual(repr(grants), before)


class AllAlikeTest(unittest.TestCase):

    def test_all_alike(self):
        for stamps in itertools.product(SLATES, repeat=3):
            self.assertIs(all_alike(grants_of(stamps)), len(set(stamps)) == 1)
        for stamp in SLATES:
            self.assertIs(all_alike(grants_of([stamp])), True)


class GrantersTest(unittest.TestCase):

    def test_granters(self):
        for mask in range(64):
            keepers = [keeper for keeper in (3, 0, 5, 1, 4, 2) if mask // 2 ** keeper % 2]
            self.assertEqual(granters([(keeper, (0, 0), None) for keeper in keepers]), mask)


if __name__ == "__main__":
    unittest.main()
