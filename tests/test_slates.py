"""Promise 10: slates and what is the same in them. Promise 12: a slate opened."""

import itertools
import random
import unittest

from oneslate.slates import blank, cell_of, doing_of, opened, with_cell, with_doing, with_lease, with_shut

HALL = ((2, (0, 1, 2)), (2, (0, 1, 2)))
FULL = ((("a", 1), ("ab", -7), ("b", 10 ** 70)), ((0, 3, 5), (2, 1, (1, 4, None))), (4, 2), HALL)


class BlankTest(unittest.TestCase):

    def test_blank(self):
        self.assertEqual(repr(blank()), repr(((), (), (0, None), None)))

    def test_of_the_blank_one(self):
        self.assertEqual(repr(cell_of(blank(), "a")), "0")
        self.assertEqual(repr(doing_of(blank(), 3)), "(3, 0, None)")
        self.assertEqual(opened(blank()), blank())


class CellsTest(unittest.TestCase):

    def test_put_changed_put_to_0_and_put_again(self):
        slate = with_cell(blank(), "b", 5)
        self.assertEqual(repr(slate), repr(((("b", 5),), (), (0, None), None)))
        slate = with_cell(slate, "a", -2)
        self.assertEqual(slate[0], (("a", -2), ("b", 5)))
        slate = with_cell(slate, "b", 6)
        self.assertEqual(slate[0], (("a", -2), ("b", 6)))
        slate = with_cell(slate, "b", 0)
        self.assertEqual(slate[0], (("a", -2),))
        slate = with_cell(slate, "b", 0)
        self.assertEqual(slate[0], (("a", -2),))
        slate = with_cell(slate, "b", 7)
        self.assertEqual(slate[0], (("a", -2), ("b", 7)))
        self.assertEqual(with_cell(with_cell(slate, "a", 0), "b", 0), blank())

    def test_any_order_of_names(self):
        cells = {"b": 2, "a": 1, "ab": -3, "aa": 10 ** 61, "abc": 4}
        told = (("a", 1), ("aa", 10 ** 61), ("ab", -3), ("abc", 4), ("b", 2))
        for names in itertools.permutations(cells):
            slate = blank()
            for name in names:
                slate = with_cell(slate, name, cells[name])
            self.assertEqual(slate, (told, (), (0, None), None))

    def test_many_puts_against_a_dict(self):
        drawn = random.Random(10)
        names = ["a", "ab", "abc", "b", "ba", "zz", "abcdefgh", "z"]
        for _ in range(60):
            slate = FULL
            cells = dict(FULL[0])
            for _ in range(30):
                name = drawn.choice(names)
                cells[name] = drawn.choice([0, 0, 1, -1, 7, 10 ** 61, -10 ** 61, 10 ** 90])
                slate = with_cell(slate, name, cells[name])
                told = tuple((one, cells[one]) for one in sorted(cells) if cells[one] != 0)
                self.assertEqual(repr(slate), repr((told,) + FULL[1:]))
                self.assertEqual([cell_of(slate, one) for one in names], [cells.get(one, 0) for one in names])

    def test_names_that_begin_alike(self):
        self.assertEqual([cell_of(FULL, name) for name in ("a", "ab", "abc", "b", "bb")], [1, -7, 0, 10 ** 70, 0])

    def test_names_somewhat_longer(self):
        self.assertEqual(cell_of(with_cell(blank(), "abcdefghi", 4), "abcdefghi"), 4)


class DoingsTest(unittest.TestCase):

    def test_in_any_order(self):
        rows = {0: (1, None), 1: (4, 0), 3: (2, (1, 2, None)), 5: (9, (0, 3, 4))}
        told = ((0, 1, None), (1, 4, 0), (3, 2, (1, 2, None)), (5, 9, (0, 3, 4)))
        for askers in itertools.permutations(rows):
            slate = blank()
            for asker in askers:
                slate = with_doing(slate, asker, rows[asker][0], rows[asker][1])
            self.assertEqual(slate, ((), told, (0, None), None))

    def test_in_the_place_of_the_one_before(self):
        slate = with_doing(FULL, 0, 4, -9)
        self.assertEqual(slate, (FULL[0], ((0, 4, -9), (2, 1, (1, 4, None)))) + FULL[2:])
        slate = with_doing(slate, 2, 2, 1)
        self.assertEqual(slate, (FULL[0], ((0, 4, -9), (2, 2, 1))) + FULL[2:])
        slate = with_doing(slate, 1, 7, 0)
        self.assertEqual(slate[1], ((0, 4, -9), (1, 7, 0), (2, 2, 1)))

    def test_doing_of(self):
        self.assertEqual(repr(doing_of(FULL, 0)), "(0, 3, 5)")
        self.assertEqual(repr(doing_of(FULL, 1)), "(1, 0, None)")
        self.assertEqual(repr(doing_of(FULL, 2)), "(2, 1, (1, 4, None))")
        self.assertEqual(repr(doing_of(FULL, 3)), "(3, 0, None)")


class LeaseAndShutTest(unittest.TestCase):

    def test_lease(self):
        for fence, tenant in [(0, None), (1, 0), (10 ** 60, 5), (7, None)]:
            self.assertEqual(repr(with_lease(FULL, fence, tenant)), repr(FULL[:2] + ((fence, tenant), HALL)))

    def test_shut(self):
        for shut in (None, "over", HALL, (0, 0)):
            self.assertEqual(repr(with_shut(FULL, shut)), repr(FULL[:3] + (shut,)))
            self.assertEqual(repr(opened(with_shut(FULL, shut))), repr(FULL[:3] + (None,)))


class HandedInTest(unittest.TestCase):

    def test_the_slate_handed_in_stays_as_it_was(self):
        before = repr(FULL)
        with_cell(FULL, "a", 0)
        with_cell(FULL, "c", 4)
        with_doing(FULL, 1, 1, 1)
        with_lease(FULL, 9, None)
        with_shut(FULL, "over")
        opened(FULL)
        self.assertEqual(repr(FULL), before)


if __name__ == "__main__":
    unittest.main()
