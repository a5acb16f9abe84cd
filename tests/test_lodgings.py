"""Promise 23: lodgings. Promise 3: in a lodging no two tenants believe at one turn."""

import copy
import random
import unittest

from oneslate.audit import audit
from oneslate.errors import Busy, NoAsker, NoDeed, NoHall, NoLetter, NoTick, NoWish, Over
from oneslate.houses import House
from oneslate.lines import line_of
from oneslate.lodgings import Lodging
from oneslate.slates import blank
from samples import HALLS, ODD_THINGS, PARTED, refused, wrapped

THREE = ((2, (0, 1, 2)), (2, (0, 1, 2)))
NEXT = ((2, (3, 4, 5)), (2, (3, 4, 5)))
# The wait for this span is 15 ticks.
SPAN, SLOW, FAST = 10, 2, 3
ADD = ("add", "a", 5)


def lodging(askers=3):
    return Lodging(THREE, askers, SPAN, SLOW, FAST)


def finish(house, asker):
    """Ring and bring until the asker's wish ended."""
    while house.stand(asker) != "calm":
        k = house.many()
        house.bell(asker)
        while k < house.many():
            house.bring(k)
            k += 1
    return house.outcome(asker)


def wished(house, asker):
    """Begin the tenant's wish, and tell its outcome."""
    house.wish(asker)
    return finish(house, asker)


def state(house, askers=3):
    rows = []
    for k in range(askers):
        rows.append([house.clock(k), house.outcome(k), house.stand(k), house.tenant_wish(k)])
    return repr((house.record(), house.history(), house.many(), house.believers(), rows))


class MakingTest(unittest.TestCase):

    def test_refuses_as_a_house(self):
        for thing in ODD_THINGS + PARTED + [list(THREE), THREE[:1], (True, True)]:
            for askers in (1, 0, None):
                refused(self, NoHall, Lodging, thing, askers, SPAN, SLOW, FAST)
        for thing in ODD_THINGS + [0, 7, True, False, "1", [1]]:
            if not (type(thing) is int and 1 <= thing <= 6):
                refused(self, NoAsker, Lodging, THREE, thing, SPAN, SLOW, FAST)

    def test_at_first(self):
        for askers in range(1, 7):
            house = lodging(askers)
            self.assertEqual((house.record(), house.history(), house.many(), house.believers()), ([], [], 0, []))
            for asker in range(askers):
                self.assertEqual(repr(house.clock(asker)), "0")
                self.assertIsNone(house.tenant_wish(asker))
                self.assertEqual((house.outcome(asker), house.stand(asker)), (None, "calm"))


class TickTest(unittest.TestCase):

    def test_clocks_go_on(self):
        house = lodging()
        self.assertIsNone(house.tick([2, 3, 2]))
        self.assertEqual([house.clock(asker) for asker in range(3)], [2, 3, 2])
        house.tick([3, 3, 2])
        self.assertEqual([house.clock(asker) for asker in range(3)], [5, 6, 4])
        self.assertEqual((house.many(), house.history()), (0, []))

    def test_what_is_no_tick(self):
        house = lodging()
        house.tick([2, 3, 2])
        before = state(house)
        moves = [
            [], [2], [2, 2], [2, 2, 2, 2], [1, 2, 2], [2, 1, 2], [2, 2, 1], [4, 2, 2], [2, 4, 2], [2, 2, 4], [2, 2, 0],
            [2, 2, -2], [2, 2, "2"], [2, None, 2], [(2,), 2, 2], [2, [2], 2], [[2, 2, 2]], [2, 2, 10 ** 99], [2] * 1000,
        ]
        moves += [[2, thing, 2] for thing in ODD_THINGS] + [[thing] for thing in ODD_THINGS]
        moves.append([wrapped(2, 19), 2, 2])
        for move in moves:
            handed = copy.deepcopy(move)
            refused(self, NoTick, house.tick, move)
            self.assertEqual(repr(move), repr(handed))
            self.assertEqual(state(house), before)

    def test_truths_are_no_ticks(self):
        house = Lodging(THREE, 2, 5, 1, 1)
        refused(self, NoTick, house.tick, [True, 1])
        refused(self, NoTick, house.tick, [1, True])
        house.tick([1, 1])
        self.assertEqual(house.clock(0), 1)

    def test_the_list_stays_the_callers_own(self):
        house = lodging()
        moves = [2, 3, 2]
        house.tick(moves)
        moves[0] = 99
        moves.clear()
        self.assertEqual([house.clock(asker) for asker in range(3)], [2, 3, 2])

    def test_numbers_of_sixty_figures(self):
        big = 10 ** 60 - 1
        house = Lodging(THREE, 1, big, 1, big)
        house.tick([big])
        house.tick([1])
        self.assertEqual(house.clock(0), big + 1)
        refused(self, NoTick, house.tick, [big + 1])


class RefusalsTest(unittest.TestCase):

    def test_no_askers(self):
        house = lodging()
        house.begin(0, ADD)
        before = state(house)
        for thing in ODD_THINGS + [-1, 3, 4, True, False, None, "0", [0], (0,), wrapped(0, 20)]:
            if type(thing) is int and 0 <= thing < 3:
                continue
            for call in (house.wish, house.begin, house.bell, house.outcome, house.stand):
                refused(self, NoAsker, call, thing)
            for deed in (ADD, ("take", 0), ("take",), "x", []):
                refused(self, NoAsker, house.begin, thing, deed)
        self.assertEqual(state(house), before)

    def test_begin_in_order(self):
        house = lodging()
        for turn in ("calm", "busy", "over"):
            before = state(house)
            things = [one for one in ODD_THINGS if one is not None]
            for deed in things + [("take",), ("renew", -1), ("take", True), list(ADD)]:
                refused(self, NoDeed, house.begin, 0, deed)
            for deed in [("take", 0), ("renew", 0), ("take", 10 ** 59), ("renew", 7)]:
                refused(self, NoWish, house.begin, 0, deed)
            if turn != "calm":
                for deed in [None, ADD, ("free", 0), ("sure", 0, "a", 1), ("move", NEXT), ("end",)]:
                    refused(self, Busy if turn == "busy" else Over, house.begin, 0, deed)
                refused(self, Busy if turn == "busy" else Over, house.wish, 0)
            self.assertEqual(state(house), before)
            if turn == "calm":
                house.begin(0, ("end",))
            else:
                finish(house, 0)

    def test_no_letters(self):
        house = lodging()
        house.begin(0, ADD)
        before = state(house)
        for thing in ODD_THINGS + [-1, 3, True, False, None, "0", [0]]:
            if not (type(thing) is int and 0 <= thing < 3):
                refused(self, NoLetter, house.bring, thing)
                refused(self, NoLetter, house.letter, thing)
        self.assertEqual(state(house), before)


class AsAHouseTest(unittest.TestCase):

    def test_it_tells_what_a_house_tells(self):
        house, other = lodging(), House(THREE, 3)
        drawn = random.Random(23)
        for _ in range(300):
            asker = drawn.randrange(3)
            if drawn.random() < 0.2 and other.stand(asker) == "calm":
                deed = drawn.choice([None, ADD, ("free", 0), ("sure", 0, "a", 1), ("move", NEXT), ("put", "b", 2)])
                self.assertEqual(house.begin(asker, deed), other.begin(asker, deed))
            elif drawn.random() < 0.05:
                self.assertEqual(house.bell(asker), other.bell(asker))
            elif other.many() > 0:
                k = drawn.randrange(max(0, other.many() - 8), other.many())
                self.assertEqual(house.letter(k), other.letter(k))
                self.assertEqual(house.bring(k), other.bring(k))
            self.assertEqual(house.many(), other.many())
            for one in range(3):
                self.assertEqual((house.outcome(one), house.stand(one)), (other.outcome(one), other.stand(one)))
        self.assertEqual((house.record(), house.history()), (other.record(), other.history()))

    def test_a_wish_begins_as_a_house_begins_it(self):
        house, other = lodging(), House(THREE, 3)
        self.assertEqual(house.wish(1), other.begin(1))
        self.assertEqual(house.record(), other.record())
        self.assertEqual(house.history(), [("begin", 1, 1, None, 0)])

    def test_lists_are_the_callers_own(self):
        house = lodging()
        house.wish(0).clear()
        finish(house, 0)
        wished(house, 0)
        before = state(house)
        house.record().clear()
        house.history().clear()
        house.believers().append(2)
        self.assertEqual(state(house), before)

    def test_glances_without_a_deed(self):
        house = lodging()
        self.assertEqual(house.begin(0), [0, 1, 2])
        self.assertEqual(finish(house, 0), ("saw", (0, (0, 0), blank())))


class TenantsTest(unittest.TestCase):

    def test_a_lease_taken_renewed_and_freed(self):
        house = lodging()
        self.assertEqual(wished(house, 0), ("saw", (0, (0, 0), blank())))
        self.assertEqual(house.tenant_wish(0), ("take", 0))
        self.assertIsNone(house.tenant_wish(1))
        self.assertEqual(wished(house, 0), ("did", (1, 1, 0)))
        self.assertEqual(house.believers(), [0])
        house.tick([3, 3, 3])
        self.assertEqual(house.tenant_wish(0), ("renew", 1))
        self.assertEqual(wished(house, 0), ("did", (1, 2, 0)))
        house.tick([3, 3, 3])
        house.tick([3, 3, 3])
        house.tick([3, 3, 3])
        self.assertEqual(house.believers(), [0])
        house.tick([2, 2, 2])
        self.assertEqual(house.believers(), [])
        house.begin(0, ("free", 2))
        self.assertEqual(finish(house, 0), ("did", (1, 3, None)))
        self.assertEqual(wished(house, 1)[0], "saw")
        self.assertEqual(wished(house, 1), ("did", (1, 4, 1)))
        self.assertEqual(house.believers(), [1])

    def test_an_end_is_told_at_once(self):
        house = lodging()
        for told in (("take", 0), ("renew", 1)):
            k = house.many()
            house.wish(0)
            while house.stand(0) != "calm":
                self.assertEqual(house.believers(), [])
                house.bring(k)
                k += 1
            self.assertEqual(house.tenant_wish(0), told)
        self.assertEqual(house.believers(), [0])

    def test_letters_behind_the_end_tell_nothing(self):
        house = lodging()
        wished(house, 0)
        wished(house, 0)
        before = state(house)
        house.tick([3, 3, 3])
        for k in range(house.many()):
            house.bring(k)
        self.assertEqual(house.believers(), [0])
        self.assertNotEqual(state(house), before)
        house.tick([3, 3, 3])
        house.tick([3, 3, 3])
        house.tick([2, 2, 2])
        self.assertEqual(house.believers(), [])

    def test_a_begun_free_is_told_at_once(self):
        house = lodging()
        wished(house, 0)
        wished(house, 0)
        self.assertEqual(house.believers(), [0])
        house.begin(0, ("free", 1))
        self.assertEqual(house.believers(), [])

    def test_a_begin_that_is_refused_is_not_told(self):
        house = lodging()
        wished(house, 0)
        wished(house, 0)
        house.begin(0, ADD)
        refused(self, Busy, house.begin, 0, ("free", 1))
        refused(self, NoDeed, house.begin, 0, ("free",))
        self.assertEqual(house.believers(), [0])

    def test_a_wish_that_is_refused_keeps_the_time_of_its_begin(self):
        house = lodging(1)
        wished(house, 0)
        house.wish(0)
        house.tick([3])
        refused(self, Busy, house.wish, 0)
        refused(self, Busy, house.begin, 0, ADD)
        self.assertEqual(finish(house, 0), ("did", (1, 1, 0)))
        house.tick([3])
        house.tick([3])
        self.assertEqual(house.believers(), [0])
        house.tick([2])
        self.assertEqual(house.believers(), [])

    def test_begins_and_ends_at_the_clocks_time(self):
        house = lodging(2)
        house.tick([2, 3])
        wished(house, 0)
        house.wish(0)
        for _ in range(2):
            house.tick([3, 2])
        finish(house, 0)
        self.assertEqual(house.believers(), [0])
        house.tick([3, 2])
        self.assertEqual(house.believers(), [0])
        house.tick([2, 2])
        self.assertEqual(house.believers(), [])
        house.wish(1)
        for _ in range(2):
            house.tick([2, 3])
        finish(house, 1)
        for _ in range(7):
            self.assertIsNone(house.tenant_wish(1))
            house.tick([2, 2])
        self.assertIsNone(house.tenant_wish(1))
        house.tick([2, 2])
        self.assertEqual(house.tenant_wish(1), ("take", 1))

    def test_a_lease_seen_by_another_ones_wishes_alone_is_not_known(self):
        house = lodging()
        wished(house, 0)
        wished(house, 0)
        self.assertIsNone(house.tenant_wish(1))

    def test_it_goes_along_to_the_next_hall(self):
        house = lodging()
        wished(house, 0)
        wished(house, 0)
        house.begin(1, ("move", NEXT))
        finish(house, 1)
        self.assertEqual(wished(house, 0), ("did", (1, 2, 0)))
        self.assertEqual(house.believers(), [0])


class LendingTest(unittest.TestCase):

    def step(self, house, drawn, askers, slow, fast, fresh):
        asker = drawn.randrange(askers)
        kind = drawn.random()
        if kind < 0.12:
            house.tick([drawn.choice([slow, fast, drawn.randint(slow, fast)]) for _ in range(askers)])
        elif kind < 0.5 and house.stand(asker) == "calm":
            if drawn.random() < 0.85:
                fresh.extend(house.wish(asker))
            else:
                deeds = [("add", "a", 1), ("free", drawn.randrange(6)), ("sure", drawn.randrange(6), "b", 1)]
                fresh.extend(house.begin(asker, drawn.choice(deeds + [("move", drawn.choice(HALLS))])))
        elif kind > 0.98 or not fresh:
            fresh.extend(house.bell(asker))
        elif kind > 0.96:
            fresh.extend(house.bring(drawn.randrange(house.many())))
        else:
            fresh.extend(house.bring(fresh.pop(drawn.randrange(min(len(fresh), 3)))))

    def test_at_no_turn_two_believe_and_fences_rise(self):
        believed = {}
        fences = 0
        for seed in range(60):
            drawn = random.Random(seed)
            hall = drawn.choice(HALLS)
            askers = drawn.randrange(2, 5)
            slow = drawn.randrange(1, 4)
            fast = slow + drawn.randrange(3)
            house = Lodging(hall, askers, drawn.choice([3, 8, 20]), slow, fast)
            fresh = []
            for _ in range(700):
                self.step(house, drawn, askers, slow, fast, fresh)
                now = house.believers()
                self.assertLessEqual(len(now), 1)
                for one in now:
                    believed[one] = True
            line = line_of(house.record(), hall)
            self.assertIsNone(audit(line, house.history()))
            told = [link[5][2] for link in line]
            for before, behind in zip(told, told[1:]):
                self.assertTrue(before == behind or behind[0] == before[0] + 1)
            fences += told[-1][0] if told else 0
        self.assertEqual(sorted(believed), [0, 1, 2, 3])
        self.assertGreater(fences, 200)


if __name__ == "__main__":
    unittest.main()
