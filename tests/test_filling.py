"""Promises 5 and 7: the keepers that a rule names, the masks that fill it, the least of them."""

import unittest

from oneslate.rules import fills, least_masks, named
from samples import ALL_MASKS, RULES, RULES_BEYOND, filled_by, keepers_in


class NamedTest(unittest.TestCase):

    def test_named(self):
        rows = [
            (0, 1), (5, 32), ((1, (3,)), 8), ((2, (0, 1, 2)), 7), ((1, (4, 4)), 16), ((2, (0, 0, 1)), 3),
            ((1, (0, 1, 2, 3, 4, 5)), 63), ((2, (0, (1, (1, 2)), 3)), 15),
            ((1, ((1, ((1, ((1, (2,)),)),)),)), 4), ((2, ((1, (0, 5)), (1, (5, 0)), 5)), 33),
        ]
        for rule, mask in rows:
            with self.subTest(rule):
                self.assertEqual(named(rule), mask)
                self.assertIs(isinstance(named(rule), bool), False)


class FillsTest(unittest.TestCase):

    def test_a_keeper(self):
        for keeper in range(6):
            for mask in ALL_MASKS:
                self.assertIs(fills(keeper, mask), keeper in keepers_in(mask))

    def test_rows_by_hand(self):
        rows = [
            ((2, (0, 1, 2)), [3, 5, 6, 7]), ((1, (0, 1)), [1, 2, 3, 5, 6, 7]), ((2, (0, 1)), [3, 7]),
            ((2, (0, 0, 1)), [1, 3, 5, 7]), ((3, (0, 0, 1)), [3, 7]),
            ((1, ((2, (0, 1)), 2)), [3, 4, 5, 6, 7]), ((2, ((1, (0, 1)), 2)), [5, 6, 7]),
        ]
        for rule, masks in rows:
            with self.subTest(rule):
                self.assertEqual([mask for mask in range(8) if fills(rule, mask)], masks)

    def test_all_masks(self):
        for rule in RULES + RULES_BEYOND:
            for mask in ALL_MASKS:
                with self.subTest(rule=rule, mask=mask):
                    self.assertIs(fills(rule, mask), filled_by(rule, keepers_in(mask)))

    def test_none_is_filled_by_no_keepers(self):
        for rule in RULES:
            self.assertIs(fills(rule, 0), False)

    def test_more_keepers_fill_too(self):
        for rule in RULES:
            for mask in ALL_MASKS:
                for more in range(6):
                    if fills(rule, mask):
                        self.assertIs(fills(rule, mask | 2 ** more), True)

    def test_keepers_that_are_not_named_change_nothing(self):
        for rule in RULES:
            for mask in ALL_MASKS:
                self.assertIs(fills(rule, mask), fills(rule, mask & named(rule)))


class LeastMasksTest(unittest.TestCase):

    def test_rows_by_hand(self):
        rows = [
            (0, [1]), (5, [32]), ((1, (4, 4)), [16]), ((2, (4, 4)), [16]), ((1, (5, 0, 3)), [1, 8, 32]),
            ((2, (2, 1, 0)), [3, 5, 6]), ((2, (0, 0, 1)), [1]), ((1, ((2, (0, 1)), 0)), [1]),
            ((1, ((2, (3, 4, 5)), (2, (0, 1, 2)))), [3, 5, 6, 24, 40, 48]),
            ((2, (0, (1, (1, 2)), 3)), [3, 5, 9, 10, 12]), ((6, (0, 1, 2, 3, 4, 5)), [63]),
        ]
        for rule, masks in rows:
            with self.subTest(rule):
                self.assertEqual(least_masks(rule), masks)

    def test_each_fills_and_with_any_one_keeper_fewer_does_not(self):
        for rule in RULES + RULES_BEYOND:
            least = []
            for mask in ALL_MASKS:
                keepers = keepers_in(mask)
                fewer = [[one for one in keepers if one != left] for left in keepers]
                if filled_by(rule, keepers) and not any(filled_by(rule, few) for few in fewer):
                    least.append(mask)
            with self.subTest(rule):
                self.assertEqual(least_masks(rule), least)

    def test_a_mask_fills_just_where_it_has_all_keepers_of_one(self):
        for rule in RULES:
            least = least_masks(rule)
            for mask in ALL_MASKS:
                self.assertIs(fills(rule, mask), any(one & mask == one for one in least))

    def test_a_rising_list(self):
        for rule in RULES:
            least = least_masks(rule)
            self.assertIs(isinstance(least, list), True)
            self.assertEqual(least, sorted(set(least)))

    def test_told_again_where_the_list_was_changed(self):
        for rule in RULES:
            before = tuple(least_masks(rule))
            first = least_masks(rule)
            second = least_masks(rule)
            first.append(0)
            first.reverse()
            self.assertEqual(tuple(second), before)
            self.assertEqual(tuple(least_masks(rule)), before)


if __name__ == "__main__":
    unittest.main()
