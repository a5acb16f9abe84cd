"""Promise 18: tellings, their keepers, and the chosen ones, from a record alone."""

import random
import unittest

from driving import drive
from oneslate.houses import House
from oneslate.slates import blank, with_cell
from oneslate.tellings import chosen_in, kept_by, tellings
from samples import HALLS, filled_by, keepers_in

THREE = ((2, (0, 1, 2)), (2, (0, 1, 2)))
LOADS = [((0, 0), 1, ("put", "a", n), with_cell(blank(), "a", n)) for n in range(5)]


def tell(keeper, epoch, stamp, load):
    return ("tell", stamp[1], keeper, epoch, stamp, load)


def kept(keeper, epoch, stamp):
    return ("kept", keeper, stamp[1], epoch, stamp, ())


OTHERS = [
    ("ask", 0, 1, 0, (9, 0), ()), ("grant", 1, 0, 0, (9, 0), ((0, 0), None)), ("late", 1, 0, 0, (9, 0), ((3, 1),)),
]


class TellingsTest(unittest.TestCase):

    def test_none(self):
        self.assertEqual(tellings([]), [])
        self.assertEqual(tellings(OTHERS + [kept(0, 0, (1, 0))]), [])

    def test_sorted_by_epochs_then_stamps_each_once(self):
        rows = [(1, (2, 0), LOADS[0]), (0, (10, 0), LOADS[1]), (0, (9, 5), LOADS[2]), (0, (9, 1), LOADS[3]),
                (2, (1, 1), LOADS[4])]
        letters = [tell(keeper, *row) for keeper in range(3) for row in rows] + OTHERS
        told = [(row[0], row[1]) + row[2] for row in sorted(rows)]
        for seed in range(10):
            random.Random(seed).shuffle(letters)
            before = list(letters)
            self.assertEqual(repr(tellings(letters)), repr(told))
            self.assertEqual(letters, before)

    def test_one_stamp_in_two_epochs(self):
        letters = [tell(0, 1, (1, 0), LOADS[0]), tell(0, 0, (1, 0), LOADS[1])]
        self.assertEqual(tellings(letters), [(0, (1, 0)) + LOADS[1], (1, (1, 0)) + LOADS[0]])


class KeptByTest(unittest.TestCase):

    def test_by_hand(self):
        self.assertEqual(kept_by([]), [])
        self.assertEqual(kept_by(OTHERS + [tell(0, 0, (1, 0), LOADS[0])]), [])
        letters = [
            kept(2, 0, (2, 0)), kept(0, 1, (1, 1)), kept(0, 0, (1, 1)), kept(2, 0, (2, 0)), kept(5, 0, (2, 0)),
            kept(1, 0, (1, 4)), kept(0, 0, (2, 0)),
        ]
        told = [(0, (1, 1), 1), (0, (1, 4), 2), (0, (2, 0), 37), (1, (1, 1), 1)]
        for seed in range(10):
            random.Random(seed).shuffle(letters)
            self.assertEqual(repr(kept_by(letters + OTHERS)), repr(told))

    def test_where_its_tell_is_not_there(self):
        self.assertEqual(kept_by([kept(4, 3, (7, 2))]), [(3, (7, 2), 16)])


class ChosenInTest(unittest.TestCase):

    def test_by_hand(self):
        letters = [
            kept(0, 0, (3, 1)), kept(1, 0, (3, 1)), kept(0, 0, (1, 0)), kept(2, 0, (1, 0)), kept(2, 0, (2, 0)),
            kept(3, 0, (2, 0)), kept(0, 1, (4, 0)), kept(1, 1, (4, 0)), kept(1, 1, (4, 0)),
        ]
        self.assertEqual(chosen_in(letters, 0, THREE), [(1, 0), (3, 1)])
        self.assertEqual(chosen_in(letters, 1, THREE), [(4, 0)])
        self.assertEqual(chosen_in(letters, 2, THREE), [])
        self.assertEqual(chosen_in([], 0, THREE), [])
        self.assertEqual(chosen_in(letters, 0, (0, 0)), [(1, 0), (3, 1)])
        self.assertEqual(chosen_in(letters, 0, ((1, (0, 1, 2)), (3, (0, 1, 2)))), [])

    def test_the_keeping_rule_counts_not_the_asking_rule(self):
        letters = [kept(0, 0, (1, 0)), kept(0, 0, (2, 0)), kept(1, 0, (2, 0)), kept(2, 0, (2, 0))]
        self.assertEqual(chosen_in(letters, 0, ((3, (0, 1, 2)), (1, (0, 1, 2)))), [(1, 0), (2, 0)])
        self.assertEqual(chosen_in(letters, 0, ((1, (0, 1, 2)), (3, (0, 1, 2)))), [(2, 0)])

    def test_rounds_rise_as_numbers(self):
        letters = [kept(0, 0, (10, 0)), kept(0, 0, (9, 5)), kept(0, 0, (9, 0))]
        self.assertEqual(chosen_in(letters, 0, (0, 0)), [(9, 0), (9, 5), (10, 0)])


class RecordsTest(unittest.TestCase):

    def test_of_driven_houses(self):
        for seed, hall in enumerate(HALLS):
            house = House(hall, 3)
            drive(house, random.Random(seed), 3, 250)
            record = house.record()
            links = {(one[3], one[4]): one[5] for one in record if one[0] == "tell"}
            self.assertEqual(tellings(record), [key + links[key] for key in sorted(links)])
            for epoch, stamp, mask in kept_by(record):
                by = {one[1] for one in record if (one[0], one[3], one[4]) == ("kept", epoch, stamp)}
                self.assertEqual(keepers_in(mask), sorted(by))
                chosen = stamp in chosen_in(record, epoch, hall)
                self.assertIs(chosen, filled_by(hall[1], by))
            self.assertEqual(record, house.record())

    def test_lists_are_the_callers_own(self):
        house = House(THREE, 2)
        drive(house, random.Random(1), 2, 200)
        record = house.record()
        for call in (tellings, kept_by, lambda letters: chosen_in(letters, 0, THREE)):
            before = repr(call(record))
            call(record).clear()
            self.assertEqual(repr(call(record)), before)


if __name__ == "__main__":
    unittest.main()
