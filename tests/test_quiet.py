"""Promise 24: an attempt. Promise 25: an asker settled. Promise 3: quiet ending."""

import random
import unittest

from driving import drawn_deed, drive, run_wish
from oneslate.audit import audit
from oneslate.errors import NoAsker
from oneslate.houses import House
from oneslate.lines import line_of
from oneslate.lodgings import Lodging
from oneslate.quiet import attempt, settle
from samples import HALLS, ODD_THINGS, filled_by, keepers_in, refused, wrapped

THREE = ((2, (0, 1, 2)), (2, (0, 1, 2)))
NEXT = ((2, (3, 4, 5)), (2, (3, 4, 5)))
LAST = ((2, (0, 2, 4)), (2, (0, 2, 4)))
ADD = ("add", "a", 5)


def busy_house(deed=ADD, askers=2, hall=THREE):
    house = House(hall, askers)
    house.begin(0, deed)
    return house


def works_with(hall, living):
    return all(filled_by(rule, keepers_in(living)) for rule in hall)


def is_between(letter, asker, living):
    keeper, one = (letter[2], letter[1]) if letter[0] in ("ask", "tell") else (letter[1], letter[2])
    return one == asker and keeper in keepers_in(living)


class Watched:
    """A house that keeps the numbers of the letters brought."""

    def __init__(self, house):
        self.house = house
        self.brought = []
        self.bells = 0

    def __getattr__(self, name):
        return getattr(self.house, name)

    def bring(self, k):
        self.brought.append(k)
        return self.house.bring(k)

    def bell(self, asker):
        self.bells += 1
        return self.house.bell(asker)


class AttemptTest(unittest.TestCase):

    def test_all_some_and_no_keepers_living(self):
        for living, brought, stand in [
            (63, 12, "calm"), (7, 12, "calm"), (3, 8, "calm"), (5, 8, "calm"), (6, 8, "calm"), (1, 2, "asking"),
            (4, 2, "asking"), (0, 0, "asking"), (56, 0, "asking"), (60, 2, "asking"), (61, 8, "calm"),
        ]:
            house = busy_house()
            self.assertEqual(repr(attempt(house, 0, living, 100)), repr(brought))
            self.assertEqual(house.stand(0), stand)
            self.assertEqual(house.outcome(0), ("did", 5) if stand == "calm" else None)

    def test_bounds(self):
        for most in range(16):
            house = busy_house()
            self.assertEqual(attempt(house, 0, 63, most), min(most, 12))
            self.assertEqual(house.record()[3:6], [("ask", 0, keeper, 0, (2, 0), ()) for keeper in range(3)])
            self.assertEqual(house.stand(0), "asking" if most < 5 else "telling" if most < 11 else "calm")

    def test_each_once_in_the_order_written_from_the_first_of_the_bell_on(self):
        watched = Watched(busy_house())
        watched.house.bring(0)
        self.assertEqual(attempt(watched, 0, 5, 100), 8)
        self.assertEqual(watched.brought, [4, 6, 7, 8, 9, 11, 12, 13])
        self.assertEqual(watched.bells, 1)

    def test_letters_of_others_are_not_brought(self):
        house = House(THREE, 3)
        house.begin(1, ("put", "b", 3))
        house.begin(0, ADD)
        watched = Watched(house)
        attempt(watched, 0, 7, 100)
        for k in watched.brought:
            self.assertTrue(is_between(house.letter(k), 0, 7))
        self.assertEqual(house.stand(1), "asking")
        self.assertEqual(house.outcome(0), ("did", 5))

    def test_on_behind_the_wishs_end(self):
        house = busy_house()
        attempt(house, 0, 63, 11)
        self.assertEqual(house.stand(0), "calm")
        other = busy_house()
        self.assertEqual(attempt(other, 0, 63, 99), 12)
        self.assertEqual([len(other.book(keeper)) for keeper in range(6)], [1, 1, 1, 0, 0, 0])

    def test_no_wish_under_way(self):
        house = House(THREE, 2)
        for _ in range(2):
            before = repr((house.record(), house.history()))
            self.assertEqual(repr(attempt(house, 0, 63, 100)), "0")
            self.assertEqual(repr((house.record(), house.history())), before)
            run_wish(house, 0, ADD)

    def test_driven_houses(self):
        for seed in range(60):
            drawn = random.Random(seed)
            house = House(drawn.choice(HALLS), 3)
            drive(house, drawn, 3, 80)
            first, living, most = house.many(), drawn.randrange(64), drawn.choice([0, 1, 5, 1000])
            watched = Watched(house)
            calm = house.stand(1) == "calm"
            told = attempt(watched, 1, living, most)
            between = [k for k in range(first, house.many()) if is_between(house.letter(k), 1, living)]
            self.assertEqual(watched.brought, [] if calm else between[:most])
            self.assertEqual(told, len(watched.brought))

    def test_no_askers(self):
        for house in (busy_house(), House(THREE, 2), Lodging(THREE, 2, 5, 1, 2)):
            before = repr((house.record(), house.history()))
            for thing in ODD_THINGS + [-1, 2, True, False, None, "0", [0], (0,), wrapped(0, 20)]:
                if not (type(thing) is int and 0 <= thing < 2):
                    for many in (0, 1, 5):
                        refused(self, NoAsker, attempt, house, thing, 63, many)
                        refused(self, NoAsker, settle, house, thing, 63, many)
            self.assertEqual(repr((house.record(), house.history())), before)

    def test_of_a_lodging(self):
        house = Lodging(THREE, 2, 10, 1, 2)
        house.wish(0)
        self.assertEqual(attempt(house, 0, 7, 100), 6)
        house.wish(0)
        self.assertEqual(attempt(house, 0, 7, 100), 12)
        self.assertEqual(house.outcome(0), ("did", (1, 1, 0)))
        self.assertEqual(house.believers(), [0])


class SettleTest(unittest.TestCase):

    def test_no_bell(self):
        house = House(THREE, 2)
        self.assertEqual(repr(settle(house, 0, 63, 0)), "0")
        self.assertEqual(repr(settle(house, 0, 63, 5)), "0")
        self.assertEqual((house.record(), house.history()), ([], []))
        house.begin(0, ADD)
        self.assertIsNone(settle(house, 0, 63, 0))
        self.assertEqual(house.many(), 3)
        run_wish(house, 1, ADD)

    def test_one_bell(self):
        for bells in (1, 2, 99):
            house = busy_house()
            self.assertEqual(repr(settle(house, 0, 7, bells)), "1")
            self.assertEqual(house.outcome(0), ("did", 5))
            self.assertEqual(house.many(), 3 + 12)

    def test_two_bells_behind_a_higher_stamp(self):
        house = busy_house()
        house.begin(1, ADD)
        for _ in range(5):
            house.bell(1)
        for k in range(house.many()):
            house.bring(k)
        self.assertIsNone(settle(house, 0, 7, 1))
        self.assertEqual(settle(house, 0, 7, 1), 1)
        self.assertEqual(house.outcome(0), ("did", 5))

    def test_a_wish_that_cannot_end(self):
        for living in (0, 1, 2, 4, 56, 57):
            house = busy_house()
            for bells in (0, 1, 5):
                watched = Watched(house)
                self.assertIsNone(settle(watched, 0, living, bells))
                self.assertEqual(watched.bells, bells)
            self.assertNotEqual(house.stand(0), "calm")

    def test_through_hand_overs(self):
        house = House(THREE, 3)
        run_wish(house, 0, ("move", NEXT))
        house.begin(1, ADD)
        self.assertEqual(settle(house, 1, 63, 9), 1)
        self.assertEqual(house.outcome(1), ("did", 5))
        run_wish(house, 0, ("move", LAST))
        house.begin(2, ADD)
        self.assertEqual(settle(house, 2, 63, 9), 2)
        self.assertEqual(house.outcome(2), ("did", 10))
        self.assertEqual(house.place(2)[0], 2)

    def test_a_bell_more_for_a_hand_over(self):
        house = House(THREE, 3)
        run_wish(house, 0, ("move", NEXT))
        house.begin(0, ("put", "b", 1))
        for _ in range(9):
            house.bell(0)
        for k in range(house.many()):
            if house.letter(k)[3] == 1:
                house.bring(k)
        house.begin(1, ADD)
        self.assertEqual(settle(house, 1, 63, 9), 2)
        self.assertEqual(house.outcome(1), ("did", 5))

    def test_living_that_work_in_the_first_hall_alone(self):
        house = House(THREE, 2)
        run_wish(house, 0, ("move", NEXT))
        house.begin(1, ADD)
        self.assertIsNone(settle(house, 1, 7, 6))
        self.assertEqual(house.place(1)[0], 1)
        self.assertEqual(settle(house, 1, 24, 6), 1)

    def test_of_a_lodging(self):
        house = Lodging(THREE, 2, 10, 1, 2)
        self.assertEqual(settle(house, 1, 63, 0), 0)
        house.wish(1)
        self.assertIsNone(settle(house, 1, 1, 3))
        self.assertEqual(settle(house, 1, 3, 3), 1)
        self.assertEqual(house.outcome(1)[0], "saw")


class QuietEndingTest(unittest.TestCase):

    def test_by_the_second_bell_and_one_more_for_each_hand_over(self):
        rung = {}
        for seed in range(400):
            drawn = random.Random(seed)
            house = House(drawn.choice(HALLS), 4)
            hall = house.place(0)[1]
            drive(house, drawn, 4, drawn.choice([0, 60, 250]))
            asker = drawn.randrange(4)
            if house.knows_over(asker):
                continue
            if house.stand(asker) == "calm":
                house.begin(asker, drawn_deed(drawn, True))
            living = drawn.choice([63, 63, drawn.randrange(64)])
            before = house.place(asker)[0]
            told = settle(house, asker, living, 30)
            if told is None:
                # It stays in the first hall that it comes to in which the living don't work.
                self.assertIs(works_with(house.place(asker)[1], living), False)
            else:
                self.assertLessEqual(told, 2 + house.place(asker)[0] - before)
                rung[(told, house.place(asker)[0] - before)] = True
            self.assertIsNone(audit(line_of(house.record(), hall), house.history()))
        self.assertTrue({(1, 0), (2, 0), (1, 1), (2, 1)} <= set(rung), rung)

    def test_where_the_living_do_not_fill_both_rules_none_ends(self):
        tried = 0
        for seed in range(200):
            drawn = random.Random(seed)
            house = House(drawn.choice(HALLS), 3)
            drive(house, drawn, 3, drawn.choice([0, 150]), ends=False)
            asker = drawn.randrange(3)
            living = drawn.randrange(64)
            if works_with(house.place(asker)[1], living) or house.stand(asker) != "calm":
                continue
            tried += 1
            house.begin(asker, drawn_deed(drawn, True))
            self.assertIsNone(settle(house, asker, living, 4))
            for _ in range(150):
                k = drawn.randrange(house.many())
                if any(is_between(house.letter(k), one, living) for one in range(3)):
                    house.bring(k)
            self.assertIsNone(settle(house, asker, living, 4))
            self.assertIsNone(house.outcome(asker))
        self.assertGreater(tried, 40)


if __name__ == "__main__":
    unittest.main()
