"""Promise 17: the house, its record, letters brought, its history. Promise 16: what it refuses."""

import copy
import random
import unittest

from driving import bring_all, drive, run_wish
from oneslate.errors import Busy, NoAsker, NoDeed, NoHall, NoLetter, Over
from oneslate.houses import House
from oneslate.keepers import heard
from oneslate.slates import blank
from samples import HALLS, ODD_THINGS, PARTED, refused, wrapped

THREE = ((2, (0, 1, 2)), (2, (0, 1, 2)))
NEXT = ((2, (3, 4, 5)), (2, (3, 4, 5)))
ADD = ("add", "a", 5)
FIVE = ((("a", 5),), ((0, 1, 5),), (0, None), None)


def state(house, askers):
    rows = [[house.outcome(k), house.stand(k), house.place(k), house.knows_over(k)] for k in range(askers)]
    return repr((house.record(), house.history(), house.many(), [house.book(k) for k in range(6)], rows))


def no_askers(askers):
    """Tell odd things that are no asker of a house with so many."""
    things = ODD_THINGS + [True, False, None, "0", [0], (0,), -1, askers, askers + 1, wrapped(0, 20)]
    return [thing for thing in things if not (type(thing) is int and 0 <= thing < askers)]


class MakingTest(unittest.TestCase):

    def test_new_houses(self):
        for hall in HALLS:
            for askers in range(1, 7):
                house = House(hall, askers)
                self.assertEqual((house.record(), house.history(), house.many()), ([], [], 0))
                self.assertEqual([house.book(keeper) for keeper in range(6)], [()] * 6)
                for asker in range(askers):
                    self.assertEqual(repr(house.place(asker)), repr((0, hall, blank())))
                    told = (house.outcome(asker), house.stand(asker), house.knows_over(asker))
                    self.assertEqual(told, (None, "calm", False))

    def test_no_halls(self):
        for thing in ODD_THINGS + PARTED + [list(THREE), THREE[:1], THREE + (0,), (THREE, THREE), (True, True)]:
            for askers in (1, 6, 0, 7, None, True):
                refused(self, NoHall, House, thing, askers)

    def test_no_numbers_of_askers(self):
        things = ODD_THINGS + [0, 7, -1, True, False, None, "1", [1], (1,), 10 ** 99]
        for thing in things:
            if not (type(thing) is int and 1 <= thing <= 6):
                refused(self, NoAsker, House, THREE, thing)


class RefusalsTest(unittest.TestCase):

    def houses(self):
        fresh = House(THREE, 3)
        driven = House(THREE, 3)
        drive(driven, random.Random(17), 3, 300, ends=False)
        over = House(THREE, 3)
        run_wish(over, 0, ("end",))
        return [fresh, driven, over]

    def test_no_askers(self):
        for house in self.houses():
            before = state(house, 3)
            for thing in no_askers(3):
                handed = copy.deepcopy(thing)
                for call in (house.bell, house.outcome, house.stand, house.place, house.knows_over, house.begin):
                    refused(self, NoAsker, call, thing)
                for deed in (None, ADD, ("add",), ["end"], "glance"):
                    refused(self, NoAsker, house.begin, thing, deed)
                self.assertEqual(thing, handed)
            self.assertEqual(state(house, 3), before)

    def test_no_deeds(self):
        for house in self.houses():
            before = state(house, 3)
            things = [one for one in ODD_THINGS if one is not None]
            for thing in things + [list(ADD), ("add", "a", True), ("move", (0, 1))]:
                for asker in range(3):
                    refused(self, NoDeed, house.begin, asker, thing)
            self.assertEqual(state(house, 3), before)

    def test_over_ahead_of_busy_and_behind_no_deed(self):
        house = House(THREE, 2)
        run_wish(house, 1, ("end",))
        before = state(house, 2)
        refused(self, Over, house.begin, 1, ADD)
        refused(self, Over, house.begin, 1)
        refused(self, NoDeed, house.begin, 1, ("add",))
        self.assertEqual(state(house, 2), before)
        house.begin(0, ADD)

    def test_busy(self):
        house = House(THREE, 2)
        house.begin(0, ADD)
        before = state(house, 2)
        refused(self, Busy, house.begin, 0, ADD)
        refused(self, Busy, house.begin, 0)
        refused(self, NoDeed, house.begin, 0, ("add",))
        self.assertEqual(state(house, 2), before)
        house.begin(1, ADD)

    def test_no_letters(self):
        for house in self.houses():
            before = state(house, 3)
            things = ODD_THINGS + [-1, house.many(), house.many() + 1, True, False, None]
            for thing in things + ["0", [0], (0,), wrapped(0, 20)]:
                if not (type(thing) is int and 0 <= thing < house.many()):
                    handed = copy.deepcopy(thing)
                    refused(self, NoLetter, house.bring, thing)
                    refused(self, NoLetter, house.letter, thing)
                    self.assertEqual(thing, handed)
            self.assertEqual(state(house, 3), before)


class RecordTest(unittest.TestCase):

    def test_a_deed_letter_by_letter(self):
        house = House(THREE, 2)
        self.assertEqual(house.begin(0, ADD), [0, 1, 2])
        self.assertEqual(house.record(), [("ask", 0, keeper, 0, (1, 0), ()) for keeper in range(3)])
        self.assertEqual(house.bring(1), [3])
        self.assertEqual(house.letter(3), ("grant", 1, 0, 0, (1, 0), ((0, 0), None)))
        self.assertEqual(house.book(1), ((0, (1, 0), (0, 0), None),))
        self.assertEqual(house.book(0), ())
        self.assertEqual(house.bring(3), [])
        self.assertEqual(house.bring(3), [])
        self.assertEqual(house.bring(2), [4])
        self.assertEqual(house.bring(4), [5, 6, 7])
        load = ((0, 0), 1, ADD, FIVE)
        self.assertEqual(house.record()[5:], [("tell", 0, keeper, 0, (1, 0), load) for keeper in range(3)])
        self.assertEqual(house.stand(0), "telling")
        self.assertEqual(house.bring(5), [8])
        self.assertEqual(house.letter(8), ("kept", 0, 0, 0, (1, 0), ()))
        self.assertEqual(house.book(0), ((0, (1, 0), (1, 0), FIVE),))
        self.assertEqual(house.bring(0), [9])
        self.assertEqual(house.letter(9), ("late", 0, 0, 0, (1, 0), ((1, 0),)))
        self.assertEqual(house.bring(8), [])
        self.assertEqual(house.bring(7), [10])
        self.assertEqual(house.bring(10), [])
        self.assertEqual(house.outcome(0), ("did", 5))
        self.assertEqual(house.many(), 11)
        told = [("begin", 0, 1, ADD, 0), ("end", 0, 1, ("did", 5), 11)]
        self.assertEqual(repr(house.history()), repr(told))

    def test_bells(self):
        house = House(THREE, 2)
        self.assertEqual(house.bell(0), [])
        house.begin(1, ADD)
        self.assertEqual(house.bell(0), [])
        self.assertEqual(house.bell(1), [3, 4, 5])
        self.assertEqual(house.record()[3:], [("ask", 1, keeper, 0, (2, 1), ()) for keeper in range(3)])
        self.assertEqual(house.history(), [("begin", 1, 1, ADD, 0)])

    def test_at_tells_the_letters_ahead_of_those_written_with_it(self):
        house = House(THREE, 3)
        house.begin(2)
        house.begin(0, ADD)
        house.bring(0)
        house.begin(1, ("move", NEXT))
        self.assertEqual(
            house.history(), [("begin", 2, 1, None, 0), ("begin", 0, 1, ADD, 3), ("begin", 1, 1, ("move", NEXT), 7)])
        house.bring(1)
        house.bring(6)
        self.assertEqual(house.letter(10), ("grant", 1, 2, 0, (1, 2), ((0, 0), None)))
        house.bring(10)
        self.assertEqual(house.history()[3:], [("end", 2, 1, ("saw", (0, (0, 0), blank())), 11)])

    def test_a_begin_that_is_refused_has_no_row(self):
        house = House(THREE, 1)
        house.begin(0, ADD)
        before = house.history()
        for deed in (ADD, ("add",)):
            with self.assertRaises(ValueError):
                house.begin(0, deed)
        self.assertEqual(house.history(), before)

    def test_through_a_hall_to_the_end(self):
        house = House(THREE, 2)
        self.assertEqual(run_wish(house, 0, ADD), ("did", 5))
        self.assertEqual(run_wish(house, 0, ("move", NEXT)), ("did", 1))
        self.assertEqual(house.place(0)[:2], (1, NEXT))
        self.assertEqual(house.place(1), (0, THREE, blank()))
        self.assertEqual(run_wish(house, 1, ADD), ("did", 10))
        self.assertEqual(house.place(1)[:2], (1, NEXT))
        self.assertEqual(run_wish(house, 1, ("end",)), ("did", 1))
        self.assertEqual((house.knows_over(0), house.knows_over(1)), (False, True))
        self.assertEqual(run_wish(house, 0, ADD), ("over", None))
        self.assertIs(house.knows_over(0), True)

    def test_letters_brought_twice_late_and_in_any_order(self):
        for seed in range(12):
            drawn = random.Random(seed)
            house = House(THREE, 2)
            total = 0
            for turn in range(6):
                house.begin(turn % 2, ("add", "a", 1))
                while house.stand(turn % 2) != "calm":
                    first = house.many()
                    house.bell(turn % 2)
                    for _ in range(4):
                        house.bring(drawn.randrange(house.many()))
                    for k in drawn.sample(range(first, house.many()), house.many() - first):
                        house.bring(k)
                    bring_all(house, first)
                total += 1
                self.assertEqual(house.outcome(turn % 2), ("did", total))

    def test_the_books_are_those_behind_each_letter(self):
        house = House(THREE, 3)
        drawn = random.Random(3)
        books = [()] * 6
        for _ in range(400):
            asker = drawn.randrange(3)
            if house.stand(asker) == "calm":
                house.begin(asker, ("add", "a", 1))
            if drawn.random() < 0.05:
                house.bell(asker)
            k = drawn.randrange(max(0, house.many() - 9), house.many())
            letter = house.letter(k)
            told = house.bring(k)
            if letter[0] in ("ask", "tell"):
                books[letter[2]], answer = heard(books[letter[2]], letter)
                self.assertEqual([house.letter(one) for one in told], [answer])
            self.assertEqual([house.book(keeper) for keeper in range(6)], books)


class OwnTest(unittest.TestCase):

    def test_two_houses_side_by_side(self):
        alone = House(THREE, 2)
        drive(alone, random.Random(5), 2, 150)
        one, other = House(THREE, 2), House(THREE, 2)
        drive(one, random.Random(5), 2, 150)
        self.assertEqual(state(other, 2), state(House(THREE, 2), 2))
        drive(other, random.Random(6), 2, 150)
        self.assertEqual(state(one, 2), state(alone, 2))

    def test_lists_are_the_callers_own(self):
        house = House(THREE, 2)
        house.begin(0, ADD).clear()
        house.bring(0).clear()
        house.bell(0).append(99)
        run_wish(house, 1, ADD)
        before = state(house, 2)
        first = house.record()
        house.record().clear()
        house.history().clear()
        house.record().append(None)
        house.history().reverse()
        self.assertEqual(state(house, 2), before)
        many = len(first)
        house.bell(0)
        self.assertEqual(len(first), many)
        rows = house.history()
        run_wish(house, 1, ADD)
        self.assertEqual(len(rows) + 2, len(house.history()))


if __name__ == "__main__":
    unittest.main()
