"""Promises 2 and 4: whole numbers, keepers and masks."""

import itertools
import unittest

from oneslate.masks import is_whole, keepers_of, mask_of
from samples import ALL_MASKS, keepers_in, wrapped


class IsWholeTest(unittest.TestCase):

    def test_whole_numbers_of_either_sign_and_of_many_figures(self):
        for thing in (0, 1, -1, 2, 63, 64, -64, 10 ** 62, -10 ** 62, 10 ** 99, 1 - 10 ** 100):
            with self.subTest(thing):
                self.assertIs(is_whole(thing), True)

    def test_all_else_is_none(self):
        things = [
            True, False, None, "", "0", "1", "-1", (), (0,), (1, 2), [], [0], [1, 2],
            (True,), [False], wrapped(0, 20), wrapped(0, 20, list),
        ]
        for thing in things:
            with self.subTest(thing):
                self.assertIs(is_whole(thing), False)


class MaskOfTest(unittest.TestCase):

    def test_each_keeper_by_itself(self):
        self.assertEqual([mask_of([keeper]) for keeper in range(6)], [1, 2, 4, 8, 16, 32])

    def test_no_keepers_and_all_six(self):
        self.assertEqual(mask_of([]), 0)
        self.assertEqual(mask_of([0, 1, 2, 3, 4, 5]), 63)

    def test_several(self):
        self.assertEqual(mask_of([0, 2]), 5)
        self.assertEqual(mask_of([1, 3, 5]), 42)

    def test_a_keeper_named_twice_counts_once(self):
        self.assertEqual(mask_of([3, 3]), 8)
        self.assertEqual(mask_of([0, 4, 0, 4, 0]), 17)
        self.assertEqual(mask_of([5] * 7 + [0]), 33)

    def test_any_order(self):
        for keepers in itertools.permutations([0, 2, 3, 5]):
            self.assertEqual(mask_of(list(keepers)), 45)

    def test_the_list_handed_in_stays_as_it_was(self):
        keepers = [4, 1, 4, 0]
        mask_of(keepers)
        self.assertEqual(keepers, [4, 1, 4, 0])

    def test_it_is_a_whole_number(self):
        for keepers in ([], [0], [5, 5]):
            self.assertIs(is_whole(mask_of(keepers)), True)


class KeepersOfTest(unittest.TestCase):

    def test_each_mask(self):
        for mask in ALL_MASKS:
            with self.subTest(mask):
                keepers = keepers_of(mask)
                self.assertIs(isinstance(keepers, list), True)
                self.assertEqual(keepers, keepers_in(mask))
                self.assertEqual(mask_of(keepers), mask)

    def test_told_again_where_the_list_was_changed(self):
        for mask in ALL_MASKS:
            first = keepers_of(mask)
            second = keepers_of(mask)
            first.append(9)
            first.reverse()
            self.assertEqual(second, keepers_in(mask))
            self.assertEqual(keepers_of(mask), keepers_in(mask))


if __name__ == "__main__":
    unittest.main()
