"""Promise 18: ways, and the line of a record."""

import random
import unittest

from driving import drive, run_wish
from oneslate.houses import House
from oneslate.lines import cut_off, last_slate, line_of, way_to
from oneslate.slates import blank, with_cell, with_shut
from oneslate.tellings import chosen_in, tellings
from samples import HALLS

THREE = ((2, (0, 1, 2)), (2, (0, 1, 2)))
NEXT = ((2, (3, 4, 5)), (2, (3, 4, 5)))
ADD = ("add", "a", 5)


def link(epoch, stamp, parent, shut=None, cell=1):
    return (epoch, stamp, parent, 1, ("put", "a", cell), with_shut(with_cell(blank(), "a", cell), shut))


def letters_of(one, keepers):
    """Tell the tell of the link, and kepts of these keepers."""
    tell = ("tell", one[1][1], 0, one[0], one[1], one[2:])
    return [tell] + [("kept", keeper, one[1][1], one[0], one[1], ()) for keeper in keepers]


FIRST = link(0, (1, 0), (0, 0))
SECOND = link(0, (2, 1), (1, 0))
ASIDE = link(0, (3, 0), (1, 0))
THIRD = link(0, (4, 1), (2, 1))
ELSEWHERE = link(1, (2, 1), (0, 0))
ABOVE = link(1, (4, 1), (2, 1))


class WayToTest(unittest.TestCase):

    def test_along_parents(self):
        links = [FIRST, SECOND, ASIDE, THIRD, ELSEWHERE, ABOVE]
        self.assertEqual(way_to(links, 0, (1, 0)), [FIRST])
        self.assertEqual(way_to(links, 0, (2, 1)), [FIRST, SECOND])
        self.assertEqual(way_to(links, 0, (3, 0)), [FIRST, ASIDE])
        self.assertEqual(way_to(links, 0, (4, 1)), [FIRST, SECOND, THIRD])
        self.assertEqual(way_to(links, 1, (2, 1)), [ELSEWHERE])
        self.assertEqual(way_to(links, 1, (4, 1)), [ELSEWHERE, ABOVE])
        self.assertEqual(links, [FIRST, SECOND, ASIDE, THIRD, ELSEWHERE, ABOVE])

    def test_of_driven_houses(self):
        for seed, hall in enumerate(HALLS):
            house = House(hall, 3)
            drive(house, random.Random(seed), 3, 300)
            links = tellings(house.record())
            for one in links:
                way = way_to(links, one[0], one[1])
                self.assertEqual(way[-1], one)
                self.assertEqual(way[0][2], (0, 0))
                for before, behind in zip(way, way[1:]):
                    self.assertEqual((before[0], before[1]), (behind[0], behind[2]))


class CutOffTest(unittest.TestCase):

    def test_cut_off(self):
        shut = link(0, (2, 1), (1, 0), NEXT)
        over = link(0, (3, 1), (2, 1), "over")
        self.assertEqual(cut_off([]), [])
        self.assertEqual(cut_off([FIRST]), [FIRST])
        self.assertEqual(cut_off([FIRST, SECOND, THIRD]), [FIRST, SECOND, THIRD])
        self.assertEqual(cut_off([FIRST, shut, over]), [FIRST, shut])
        self.assertEqual(cut_off([FIRST, SECOND, over, THIRD]), [FIRST, SECOND, over])
        self.assertEqual(cut_off([over, shut]), [over])
        self.assertEqual(cut_off([FIRST, shut]), [FIRST, shut])

    def test_lists_are_the_callers_own(self):
        links = [FIRST, SECOND]
        cut_off(links).clear()
        way_to(links, 0, (2, 1)).clear()
        self.assertEqual(links, [FIRST, SECOND])


class LastSlateTest(unittest.TestCase):

    def test_last_slate(self):
        over = link(0, (3, 1), (2, 1), "over", 7)
        self.assertEqual(repr(last_slate([])), repr(blank()))
        self.assertEqual(last_slate([FIRST]), FIRST[5])
        self.assertEqual(last_slate([FIRST, over]), over[5])


class LineOfTest(unittest.TestCase):

    def test_none_chosen(self):
        self.assertEqual(line_of([], THREE), [])
        self.assertEqual(line_of(letters_of(FIRST, [0]), THREE), [])
        self.assertEqual(line_of(letters_of(FIRST, []), THREE), [])
        self.assertEqual(line_of(letters_of(ELSEWHERE, [0, 1, 2]), THREE), [])

    def test_the_highest_chosen_one(self):
        record = letters_of(FIRST, [0, 1]) + letters_of(SECOND, [0]) + letters_of(ASIDE, [2])
        self.assertEqual(line_of(record, THREE), [FIRST])
        record += letters_of(THIRD, [1, 2])
        self.assertEqual(line_of(record, THREE), [FIRST, SECOND, THIRD])
        self.assertEqual(line_of(record[::-1], THREE), [FIRST, SECOND, THIRD])

    def test_a_kept_without_its_tell_is_no_telling(self):
        record = letters_of(FIRST, [0, 1]) + letters_of(SECOND, [0, 1, 2])[1:]
        self.assertEqual(line_of(record, THREE), [FIRST])
        self.assertEqual(line_of(letters_of(SECOND, [0, 1, 2])[1:], THREE), [])
        self.assertEqual(line_of(record + letters_of(ELSEWHERE, []), THREE), [FIRST])

    def test_a_slate_that_is_not_shut_ends_the_line(self):
        self.assertEqual(line_of(letters_of(FIRST, [0, 1]) + letters_of(ELSEWHERE, [0, 1, 2]), THREE), [FIRST])

    def test_cut_off_at_the_first_shut_slate(self):
        over = link(0, (2, 1), (1, 0), "over")
        behind = link(0, (4, 1), (2, 1), "over")
        record = letters_of(FIRST, []) + letters_of(over, []) + letters_of(behind, [0, 2])
        self.assertEqual(line_of(record, THREE), [FIRST, over])
        record += letters_of(ELSEWHERE, [0, 1, 2, 3, 4, 5])
        self.assertEqual(line_of(record, THREE), [FIRST, over])

    def test_over_several_epochs(self):
        moved = link(0, (2, 1), (1, 0), NEXT)
        again = link(1, (4, 1), (2, 1), (0, 0))
        last = link(2, (1, 0), (0, 0))
        record = letters_of(last, [0]) + letters_of(again, [3, 4]) + letters_of(ELSEWHERE, [])
        record += letters_of(FIRST, []) + letters_of(moved, [0, 1])
        self.assertEqual(line_of(record, THREE), [FIRST, moved, ELSEWHERE, again, last])
        self.assertEqual(line_of(record[1:], THREE), [FIRST, moved, ELSEWHERE, again])

    def test_where_none_is_chosen_in_the_next_epoch(self):
        moved = link(0, (2, 1), (1, 0), NEXT)
        record = letters_of(FIRST, []) + letters_of(moved, [0, 1]) + letters_of(ELSEWHERE, [0, 1, 2, 3])
        self.assertEqual(line_of(record, THREE), [FIRST, moved])

    def test_of_a_house(self):
        house = House(THREE, 2)
        for asker, deed in [(0, ADD), (1, ADD), (0, ("move", NEXT)), (0, None), (1, ADD), (1, ("end",)), (0, ADD)]:
            run_wish(house, asker, deed)
        line = line_of(house.record(), THREE)
        self.assertEqual([one[0] for one in line], [0, 0, 0, 1, 1])
        self.assertEqual([one[4] for one in line], [ADD, ADD, ("move", NEXT), ADD, ("end",)])
        self.assertEqual(last_slate(line), ((("a", 15),), ((0, 2, 1), (1, 3, 1)), (0, None), "over"))

    def test_each_chosen_telling_is_there_and_the_highest_is_last(self):
        for seed, hall in enumerate(HALLS * 2):
            house = House(hall, 3)
            drive(house, random.Random(seed), 3, 300)
            record = house.record()
            line = line_of(record, hall)
            self.assertEqual(record, house.record())
            epoch_hall = hall
            for epoch in range(line[-1][0] + 1 if line else 0):
                stamps = [one[1] for one in line if one[0] == epoch]
                last = [one for one in line if one[0] == epoch][-1]
                for stamp in chosen_in(record, epoch, epoch_hall):
                    self.assertTrue(stamp in stamps or (last[5][3] is not None and stamp > last[1]))
                epoch_hall = last[5][3]


if __name__ == "__main__":
    unittest.main()
