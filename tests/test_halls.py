"""Promises 8 and 9: halls, their parting, their members, when they work, and their stoppers."""

import copy
import itertools
import unittest

from oneslate.errors import NoHall, NoRule
from oneslate.halls import is_hall, make_hall, members_of, parting, stoppers, works
from samples import (
    ALL_MASKS, HALLS, ODD_THINGS, PARTED, RULES, RULES_BEYOND, chained, filled_by, keepers_in, refused, wrapped,
)


def filling(rule):
    return [mask for mask in ALL_MASKS if filled_by(rule, keepers_in(mask))]


def least(rule):
    """Tell the least masks by comparing all filling ones with one another."""
    masks = filling(rule)
    return [mask for mask in masks if not any(other != mask and other & mask == other for other in masks)]


def parting_by_words(asking, keeping):
    pairs = [(one, other) for one in least(asking) for other in least(keeping) if one & other == 0]
    return min(pairs, default=None)


def members_by_words(hall):
    found = set()
    rest = list(hall)
    while rest:
        rule = rest.pop()
        if isinstance(rule, int):
            found.add(rule)
        else:
            rest.extend(rule[1])
    return sorted(found)


class PartingTest(unittest.TestCase):

    def test_rows_by_hand(self):
        rows = [
            (0, 0, None), (0, 1, (1, 2)), (5, 3, (32, 8)), ((1, (0, 1)), (1, (0, 1)), (1, 2)),
            ((1, (1, 2)), 1, (4, 2)), ((2, (0, 1, 2)), (2, (0, 1, 2)), None),
            ((2, (0, 1, 2)), (1, (0, 1, 2)), (3, 4)), ((2, (0, 1, 2, 3)), (2, (0, 1, 2, 3)), (3, 12)),
            ((1, (5, 4)), (1, (3, 2, 1)), (16, 2)), ((1, ((2, (0, 5)), 4)), (1, (4, 5, 3)), (16, 8)),
            ((1, ((2, (1, 2)), 0)), (1, ((2, (0, 3)), 1)), (1, 2)),
        ]
        for asking, keeping, told in rows:
            with self.subTest(asking=asking, keeping=keeping):
                self.assertEqual(repr(parting(asking, keeping)), repr(told))

    def test_all_pairs_of_rules(self):
        rules = RULES + RULES_BEYOND
        for asking, keeping in itertools.product(rules, rules):
            with self.subTest(asking=asking, keeping=keeping):
                self.assertEqual(repr(parting(asking, keeping)), repr(parting_by_words(asking, keeping)))

    def test_none_just_where_all_filling_masks_meet(self):
        for asking, keeping in itertools.product(RULES, RULES):
            meet = all(one & other for one in filling(asking) for other in filling(keeping))
            with self.subTest(asking=asking, keeping=keeping):
                self.assertIs(parting(asking, keeping) is None, meet)

    def test_samples(self):
        for asking, keeping in HALLS:
            self.assertIsNone(parting(asking, keeping))
        for asking, keeping in PARTED:
            self.assertIsNotNone(parting(asking, keeping))


class MakeHallTest(unittest.TestCase):

    def test_a_hall(self):
        for asking, keeping in HALLS:
            self.assertEqual(repr(make_hall(asking, keeping)), repr((asking, keeping)))

    def test_two_rules_that_part(self):
        for asking, keeping in PARTED:
            refused(self, NoHall, make_hall, asking, keeping)

    def test_no_rules(self):
        things = ODD_THINGS + RULES_BEYOND + [[1, (0,)], (1, [0]), (True, (0,)), 6, True, chained(0, 5)]
        for thing in things:
            refused(self, NoRule, make_hall, thing, 0)
            refused(self, NoRule, make_hall, 0, thing)
            refused(self, NoRule, make_hall, thing, thing)
            refused(self, NoRule, make_hall, thing, (1, (0, 1)))

    def test_what_is_handed_in_stays_as_it_was(self):
        thing = [1, [0, (1, [2])]]
        before = copy.deepcopy(thing)
        refused(self, NoRule, make_hall, thing, thing)
        self.assertIs(is_hall([thing, thing]), False)
        self.assertEqual(thing, before)


class IsHallTest(unittest.TestCase):

    def check(self, told, things):
        for thing in things:
            with self.subTest(thing):
                self.assertIs(is_hall(thing), told)

    def test_halls(self):
        self.check(True, HALLS)
        self.check(False, PARTED)

    def test_tuples_of_other_lengths_and_lists(self):
        for hall in HALLS:
            self.check(False, [hall[:1], hall + hall[:1], (hall,), (hall, hall), list(hall), [hall], hall[:1] + ((),)])
        self.check(False, [(), (0,), (0, 0, 0), [], [0], [0, 0], [0, 0, 0]])
        self.check(False, [((1, [0]), 0), (0, (1, [0])), ([1, (0,)], 0), (0, [1, (0,)])])

    def test_rules_that_are_none(self):
        for thing in ODD_THINGS + RULES_BEYOND:
            self.check(False, [(thing, 0), (0, thing), (thing, thing)])
        self.check(False, [(True, True), (False, False), (0, False), (True, 1), ((True, (0,)), 0), (6, 6), (-1, -1)])

    def test_odd_things(self):
        self.check(False, ODD_THINGS + [wrapped((0, 0), 19), wrapped(0, 20), wrapped(0, 20, list), "0 / 0"])

    def test_the_first_rule_alone_is_no_hall(self):
        self.check(False, [RULES[0], RULES[-1]])


class MembersTest(unittest.TestCase):

    def test_rows_by_hand(self):
        rows = [
            ((0, 0), [0]), (((2, (0, 1)), (2, (0, 1, 5))), [0, 1, 5]), (((2, (4, 2, 1)), (2, (2, 1))), [1, 2, 4]),
            (((2, (0, 0, 3)), (2, (0, (1, (3, 4))))), [0, 3, 4]),
        ]
        for hall, members in rows:
            self.assertEqual(members_of(hall), members)

    def test_rising_and_told_again_where_the_list_was_changed(self):
        for hall in HALLS + PARTED:
            first = members_of(hall)
            self.assertIs(type(first), list)
            self.assertEqual(first, members_by_words(hall))
            first.reverse()
            first.append(9)
            self.assertEqual(members_of(hall), members_by_words(hall))


class WorksTest(unittest.TestCase):

    def test_all_masks(self):
        for hall in HALLS + PARTED:
            for mask in ALL_MASKS:
                keepers = keepers_in(mask)
                both = filled_by(hall[0], keepers) and filled_by(hall[1], keepers)
                self.assertIs(works(hall, mask), both)

    def test_each_rule_counts(self):
        self.assertIs(works(((3, (0, 1, 2)), (1, (0, 1, 2))), 3), False)
        self.assertIs(works(((1, (0, 1, 2)), (3, (0, 1, 2))), 3), False)
        self.assertIs(works(((1, (0, 1, 2)), (3, (0, 1, 2))), 7), True)


class StoppersTest(unittest.TestCase):

    def test_rows_by_hand(self):
        rows = [
            ((0, 0), [1]), (((2, (0, 1, 2)), (2, (0, 1, 2))), [3, 5, 6]), (((1, (0, 1, 2)), (3, (0, 1, 2))), [1, 2, 4]),
            (((2, (0, 1)), (2, (0, 1, 5))), [1, 2]), (((4, (0, 1, 2, 3)), (1, (0, 1, 2, 3))), [1, 2, 4, 8]),
            (((3, (0, 1, 2, 3)), (2, (0, 1, 2, 3))), [3, 5, 6, 9, 10, 12]),
        ]
        for hall, masks in rows:
            with self.subTest(hall):
                self.assertEqual(stoppers(hall), masks)

    def test_all_masks(self):
        for hall in HALLS + PARTED:
            members = set(members_by_words(hall))
            told = [mask for mask in ALL_MASKS if self.stops(hall, members, set(keepers_in(mask)))]
            with self.subTest(hall):
                self.assertEqual(stoppers(hall), told)

    def stops(self, hall, members, missing):
        rest = members - missing
        runs = [all(filled_by(rule, keepers) for rule in hall) for keepers in [rest] + [rest | {k} for k in missing]]
        return missing <= members and not runs[0] and all(runs[1:])

    def test_told_again_where_the_list_was_changed(self):
        for hall in HALLS:
            before = tuple(stoppers(hall))
            first = stoppers(hall)
            self.assertIs(type(first), list)
            first.clear()
            self.assertEqual(tuple(stoppers(hall)), before)


if __name__ == "__main__":
    unittest.main()
