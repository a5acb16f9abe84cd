"""Promises 15 and 16: what an asker knows, what counts with it, what it refuses, and how it stands."""

import copy
import unittest

from oneslate.askers import Asker
from oneslate.errors import Busy, NoDeed, Over
from oneslate.slates import blank, opened, with_cell, with_doing, with_shut
from samples import ODD_THINGS, PARTED, refused

THREE = ((2, (0, 1, 2)), (2, (0, 1, 2)))
# The asking rule is filled by one keeper, the keeping rule by all three.
QUICK = ((1, (0, 1, 2)), (3, (0, 1, 2)))
# Keeper 5 stands in the keeping rule alone, keeper 4 in the asking rule alone.
LATER = ((2, (0, 1, 4)), (2, (0, 1, 5)))
NEXT = ((2, (3, 4, 5)), (2, (3, 4, 5)))
ADD = ("add", "a", 5)
FIVE = ((("a", 5),), ((1, 1, 5),), (0, None), None)
OTHER = with_doing(with_cell(blank(), "b", 2), 0, 1, 0)


def grant(keeper, stamp, kept=(0, 0), slate=None, epoch=0):
    return ("grant", keeper, stamp[1], epoch, stamp, (kept, slate))


def kept_letter(keeper, stamp, epoch=0):
    return ("kept", keeper, stamp[1], epoch, stamp, ())


def late(keeper, me, promised, epoch=0, stamp=(1, 1)):
    return ("late", keeper, me, epoch, stamp, (promised,))


def asks(me, members, stamp, epoch=0):
    return [("ask", me, keeper, epoch, stamp, ()) for keeper in members]


def tells(me, members, stamp, load, epoch=0):
    return [("tell", me, keeper, epoch, stamp, load) for keeper in members]


def state(asker):
    told = (asker.outcome(), asker.number(), asker.stand(), asker.stamp(), asker.place(), asker.knows_over())
    return repr(told)


def telling(hall=THREE, deed=ADD, slate=None, kept=(0, 0)):
    """Tell asker 1, with the deed told behind grants of keepers 0 and 1."""
    asker = Asker(1, hall)
    asker.begin(deed)
    asker.hear(grant(0, (1, 1), kept, slate))
    asker.hear(grant(1, (1, 1), kept, slate))
    return asker


class AskerTest(unittest.TestCase):

    def silent(self, asker, letter):
        """Check that the letter does nothing."""
        before = state(asker)
        self.assertEqual(asker.hear(letter), [])
        self.assertEqual(state(asker), before)


class BeginTest(AskerTest):

    def test_at_first(self):
        for me in range(6):
            told = (None, 0, "calm", (0, 0), (0, THREE, blank()), False)
            self.assertEqual(state(Asker(me, THREE)), repr(told))

    def test_it_asks_each_member_by_rising_keepers(self):
        for hall, members in [(THREE, [0, 1, 2]), (LATER, [0, 1, 4, 5]), (NEXT, [3, 4, 5]), ((0, 0), [0])]:
            for deed in (None, ADD):
                asker = Asker(1, hall)
                self.assertEqual(repr(asker.begin(deed)), repr(asks(1, members, (1, 1))))
                self.assertEqual(state(asker), repr((None, 1, "asking", (1, 1), (0, hall, blank()), False)))

    def test_a_glance_where_nothing_is_told(self):
        asker = Asker(1, THREE)
        self.assertEqual(asker.begin(), asks(1, [0, 1, 2], (1, 1)))
        asker.hear(grant(0, (1, 1)))
        asker.hear(grant(2, (1, 1)))
        self.assertEqual(asker.outcome(), ("saw", (0, (0, 0), blank())))

    def test_what_is_no_deed(self):
        things = [one for one in ODD_THINGS if one is not None] + [("move", hall) for hall in PARTED]
        things += [list(ADD), ("add", "a", True), ("add", "a"), ("add", "a", 5, 5)]
        things += [("glance",), "glance", [None], (None,)]
        asker = Asker(1, THREE)
        for thing in things:
            before = state(asker)
            handed = copy.deepcopy(thing)
            refused(self, NoDeed, asker.begin, thing)
            self.assertEqual(state(asker), before)
            self.assertEqual(thing, handed)

    def test_busy(self):
        asker = Asker(1, THREE)
        asker.begin(ADD)
        for turn in range(2):
            for deed in (None, ADD, ("end",)):
                before = state(asker)
                refused(self, Busy, asker.begin, deed)
                refused(self, NoDeed, asker.begin, ("add",))
                self.assertEqual(state(asker), before)
            asker.hear(grant(0, (1, 1)))
            asker.hear(grant(1, (1, 1)))
        self.assertEqual(asker.stand(), "telling")
        asker.hear(kept_letter(0, (1, 1)))
        asker.hear(kept_letter(1, (1, 1)))
        self.assertEqual(asker.begin(None), asks(1, [0, 1, 2], (2, 1)))

    def test_over(self):
        asker = telling(deed=("end",))
        asker.hear(kept_letter(0, (1, 1)))
        asker.hear(kept_letter(1, (1, 1)))
        for deed in (None, ADD, ("end",)):
            before = state(asker)
            refused(self, Over, asker.begin, deed)
            refused(self, NoDeed, asker.begin, ("end", 1))
            self.assertEqual(state(asker), before)

    def test_numbers_rise_with_the_wishes(self):
        asker = Asker(0, (0, 0))
        for number in range(1, 6):
            asker.begin(None if number % 2 else ADD)
            self.assertEqual(asker.number(), number)
            self.assertIsNone(asker.outcome())
            told = asker.hear(grant(0, asker.stamp()))
            self.assertEqual(len(told), 0 if number % 2 else 1)
            asker.hear(kept_letter(0, asker.stamp()))
            self.assertIsNotNone(asker.outcome())


class BellTest(AskerTest):

    def test_while_calm(self):
        asker = Asker(1, THREE)
        before = state(asker)
        self.assertEqual(asker.bell(), [])
        self.assertEqual(state(asker), before)
        self.assertEqual(asker.begin(ADD), asks(1, [0, 1, 2], (1, 1)))

    def test_while_asking(self):
        asker = Asker(1, THREE)
        asker.begin(ADD)
        asker.hear(grant(0, (1, 1)))
        self.assertEqual(asker.bell(), asks(1, [0, 1, 2], (2, 1)))
        self.assertEqual(state(asker), repr((None, 1, "asking", (2, 1), (0, THREE, blank()), False)))
        self.silent(asker, grant(1, (1, 1)))
        self.assertEqual(asker.hear(grant(1, (2, 1))), [])
        self.assertEqual(asker.stand(), "asking")
        self.assertEqual(len(asker.hear(grant(2, (2, 1)))), 3)

    def test_while_telling(self):
        asker = telling()
        asker.hear(kept_letter(0, (1, 1)))
        self.assertEqual(asker.bell(), asks(1, [0, 1, 2], (2, 1)))
        self.assertEqual(asker.stand(), "asking")
        self.silent(asker, kept_letter(1, (1, 1)))
        asker.hear(grant(0, (2, 1), (1, 1), FIVE))
        told = asker.hear(grant(1, (2, 1)))
        self.assertEqual(told, tells(1, [0, 1, 2], (2, 1), ((1, 1), 1, ADD, FIVE)))
        self.assertEqual(asker.hear(kept_letter(1, (2, 1))), [])
        self.assertEqual(asker.stand(), "telling")
        self.assertEqual(asker.hear(kept_letter(2, (2, 1))), [])
        self.assertEqual(asker.outcome(), ("did", 5))

    def test_when_the_wish_ended(self):
        asker = telling()
        asker.hear(kept_letter(0, (1, 1)))
        asker.hear(kept_letter(1, (1, 1)))
        before = state(asker)
        self.assertEqual(asker.bell(), [])
        self.assertEqual(state(asker), before)


class LateTest(AskerTest):

    def test_it_raises_the_round_and_does_nothing_else(self):
        for asker in (Asker(1, THREE), telling(), self.asking()):
            for letter in [late(0, 1, (7, 0)), late(5, 1, (7, 3), epoch=4), late(2, 1, (7, 5), stamp=(3, 1))]:
                self.silent(asker, letter)
            if asker.stand() == "calm":
                asker.begin(ADD)
            else:
                asker.bell()
            self.assertEqual(asker.stamp(), (8, 1))

    def asking(self):
        asker = Asker(1, THREE)
        asker.begin()
        return asker

    def test_rounds_never_fall(self):
        asker = self.asking()
        for promised, stamp in [((4, 0), 5), ((2, 5), 6), ((6, 5), 7), ((7, 0), 8), ((10 ** 61, 2), 10 ** 61 + 1)]:
            self.silent(asker, late(0, 1, promised))
            self.silent(asker, late(0, 1, (1, 5)))
            asker.bell()
            self.assertEqual(asker.stamp(), (stamp, 1))

    def test_the_grants_still_count_behind_a_late(self):
        asker = self.asking()
        asker.hear(grant(0, (1, 1)))
        self.silent(asker, late(2, 1, (9, 0)))
        asker.hear(grant(1, (1, 1)))
        self.assertEqual(asker.outcome(), ("saw", (0, (0, 0), blank())))

    def test_one_that_goes_to_another_asker(self):
        asker = self.asking()
        self.silent(asker, late(0, 2, (9, 0)))
        asker.bell()
        self.assertEqual(asker.stamp(), (2, 1))


class GrantTest(AskerTest):

    def test_what_does_not_count(self):
        for hall, members in [(THREE, [0, 1, 2]), (LATER, [0, 1, 4, 5])]:
            asker = Asker(1, hall)
            asker.begin(ADD)
            self.silent(asker, grant(0, (1, 1), epoch=1))
            self.silent(asker, grant(0, (2, 1)))
            self.silent(asker, grant(0, (1, 0)))
            self.silent(asker, grant(3, (1, 1)))
            self.silent(asker, ("grant", 0, 2, 0, (1, 1), ((0, 0), None)))
            self.silent(asker, kept_letter(0, (1, 1)))
            self.silent(asker, ("ask", 0, 1, 0, (1, 1), ()))
            self.silent(asker, ("tell", 0, 1, 0, (1, 1), ((0, 0), 1, ADD, FIVE)))
            self.silent(asker, grant(0, (1, 1)))
            self.silent(asker, grant(0, (1, 1)))
            self.silent(asker, grant(0, (1, 1), (1, 0), OTHER))
            told = asker.hear(grant(1, (1, 1)))
            self.assertEqual(told, tells(1, members, (1, 1), ((0, 0), 1, ADD, FIVE)))

    def test_while_calm(self):
        asker = Asker(1, THREE)
        self.silent(asker, grant(0, (0, 0)))
        self.silent(asker, ("grant", 0, 1, 0, (0, 0), ((0, 0), None)))
        self.silent(asker, ("kept", 0, 1, 0, (0, 0), ()))

    def test_while_telling_it_does_nothing(self):
        asker = telling()
        self.silent(asker, grant(2, (1, 1), (1, 0), OTHER))
        self.silent(asker, grant(0, (1, 1)))

    def test_a_member_of_the_keeping_rule_alone(self):
        asker = Asker(1, LATER)
        asker.begin(ADD)
        self.silent(asker, grant(5, (1, 1), (1, 0), OTHER))
        asker.hear(grant(4, (1, 1)))
        told = asker.hear(grant(0, (1, 1)))
        behind = ((("a", 5), ("b", 2)), ((0, 1, 0), (1, 1, 5)), (0, None), None)
        self.assertEqual(told, tells(1, [0, 1, 4, 5], (1, 1), ((1, 0), 1, ADD, behind)))
        self.silent(asker, kept_letter(4, (1, 1)))
        self.silent(asker, kept_letter(5, (1, 1)))
        asker.hear(kept_letter(0, (1, 1)))
        self.assertEqual(asker.outcome(), ("did", 5))

    def test_nothing_kept_so_far(self):
        asker = Asker(1, THREE)
        asker.begin(ADD)
        self.silent(asker, grant(2, (1, 1)))
        told = asker.hear(grant(0, (1, 1)))
        self.assertEqual(repr(told), repr(tells(1, [0, 1, 2], (1, 1), ((0, 0), 1, ADD, FIVE))))
        self.assertEqual(state(asker), repr((None, 1, "telling", (1, 1), (0, THREE, blank()), False)))

    def test_the_highest_one_is_taken(self):
        high = with_cell(blank(), "a", 1)
        for first, second in [(((2, 0), high), ((1, 5), OTHER)), (((1, 5), OTHER), ((2, 0), high))]:
            asker = Asker(1, THREE)
            asker.begin(ADD)
            asker.hear(grant(0, (1, 1), *first))
            told = asker.hear(grant(1, (1, 1), *second))
            behind = ((("a", 6),), ((1, 1, 6),), (0, None), None)
            self.assertEqual(told, tells(1, [0, 1, 2], (1, 1), ((2, 0), 1, ADD, behind)))


class GlanceTest(AskerTest):

    def glance(self, hall, grants):
        asker = Asker(1, hall)
        asker.begin()
        told = []
        for keeper, kept, slate in grants:
            self.assertEqual(told, [])
            told = asker.hear(grant(keeper, (1, 1), kept, slate))
        return asker, told

    def test_that_ends_with_its_grants(self):
        asker, told = self.glance(THREE, [(0, (4, 0), OTHER), (2, (4, 0), OTHER)])
        self.assertEqual(told, [])
        told = (("saw", (0, (4, 0), OTHER)), 1, "calm", (1, 1), (0, THREE, blank()), False)
        self.assertEqual(state(asker), repr(told))
        self.silent(asker, grant(1, (1, 1), (4, 0), OTHER))
        asker, told = self.glance(THREE, [(0, (0, 0), None), (2, (0, 0), None)])
        self.assertEqual(told, [])
        self.assertEqual(asker.outcome(), ("saw", (0, (0, 0), blank())))

    def test_that_must_tell_where_stamps_are_unlike(self):
        asker, told = self.glance(THREE, [(0, (4, 0), OTHER), (2, (0, 0), None)])
        self.assertEqual(repr(told), repr(tells(1, [0, 1, 2], (1, 1), ((4, 0), 1, None, OTHER))))
        self.assertEqual(asker.stand(), "telling")
        asker.hear(kept_letter(1, (1, 1)))
        self.assertIsNone(asker.outcome())
        self.assertEqual(asker.hear(kept_letter(0, (1, 1))), [])
        self.assertEqual(asker.outcome(), ("saw", (0, (1, 1), OTHER)))
        self.assertEqual(asker.stand(), "calm")

    def test_that_must_tell_where_the_granters_do_not_fill_the_keeping_rule(self):
        asker, told = self.glance(QUICK, [(1, (4, 0), OTHER)])
        self.assertEqual(told, tells(1, [0, 1, 2], (1, 1), ((4, 0), 1, None, OTHER)))
        asker, told = self.glance(QUICK, [(1, (0, 0), None)])
        self.assertEqual(told, tells(1, [0, 1, 2], (1, 1), ((0, 0), 1, None, blank())))
        for keeper in range(3):
            self.assertIsNone(asker.outcome())
            asker.hear(kept_letter(keeper, (1, 1)))
        self.assertEqual(asker.outcome(), ("saw", (0, (1, 1), blank())))

    def test_shut_with_a_hall(self):
        shut = with_shut(OTHER, NEXT)
        asker, told = self.glance(THREE, [(0, (4, 0), shut), (2, (4, 0), shut)])
        self.assertEqual(told, tells(1, [0, 1, 2], (1, 1), ((4, 0), 1, None, shut)))
        asker.hear(kept_letter(0, (1, 1)))
        self.assertEqual(asker.hear(kept_letter(1, (1, 1))), asks(1, [3, 4, 5], (2, 1), epoch=1))
        self.assertEqual(state(asker), repr((None, 1, "asking", (2, 1), (1, NEXT, OTHER), False)))
        self.silent(asker, kept_letter(2, (1, 1)))
        self.silent(asker, grant(0, (2, 1), epoch=1))
        self.silent(asker, grant(3, (2, 1), epoch=0))
        self.silent(asker, grant(3, (2, 1), epoch=1))
        self.assertEqual(asker.hear(grant(4, (2, 1), epoch=1)), [])
        self.assertEqual(asker.outcome(), ("saw", (1, (0, 0), OTHER)))
        self.assertEqual(asker.place(), (1, NEXT, OTHER))

    def test_shut_over(self):
        shut = with_shut(OTHER, "over")
        asker, told = self.glance(THREE, [(0, (4, 0), shut), (2, (4, 0), shut)])
        self.assertEqual(told, tells(1, [0, 1, 2], (1, 1), ((4, 0), 1, None, shut)))
        asker.hear(kept_letter(0, (1, 1)))
        self.assertIs(asker.knows_over(), False)
        self.assertEqual(asker.hear(kept_letter(1, (1, 1))), [])
        told = (("saw", (0, None, shut)), 1, "calm", (1, 1), (0, THREE, blank()), True)
        self.assertEqual(state(asker), repr(told))


class KeptTest(AskerTest):

    def test_what_does_not_count(self):
        asker = telling()
        self.silent(asker, kept_letter(0, (1, 1), epoch=1))
        self.silent(asker, kept_letter(0, (2, 1)))
        self.silent(asker, kept_letter(0, (1, 0)))
        self.silent(asker, kept_letter(3, (1, 1)))
        self.silent(asker, ("kept", 0, 2, 0, (1, 1), ()))
        self.silent(asker, kept_letter(2, (1, 1)))
        self.silent(asker, kept_letter(2, (1, 1)))
        self.assertEqual(asker.hear(kept_letter(0, (1, 1))), [])
        self.assertEqual(state(asker), repr((("did", 5), 1, "calm", (1, 1), (0, THREE, blank()), False)))
        self.silent(asker, kept_letter(1, (1, 1)))

    def test_kepts_of_an_earlier_telling_do_not_count(self):
        asker = telling()
        asker.hear(kept_letter(0, (1, 1)))
        asker.bell()
        asker.hear(grant(1, (2, 1)))
        asker.hear(grant(2, (2, 1)))
        self.silent(asker, kept_letter(1, (1, 1)))
        self.silent(asker, kept_letter(1, (2, 1)))
        asker.hear(kept_letter(2, (2, 1)))
        self.assertEqual(asker.outcome(), ("did", 5))

    def test_a_deed_done_before_by_an_earlier_telling_of_its_own(self):
        above = with_doing(with_cell(FIVE, "a", 8), 0, 1, 8)
        asker = telling()
        asker.bell()
        asker.hear(grant(0, (2, 1), (1, 5), above))
        told = asker.hear(grant(1, (2, 1), (1, 1), FIVE))
        self.assertEqual(told, tells(1, [0, 1, 2], (2, 1), ((1, 5), 1, ADD, above)))
        asker.hear(kept_letter(0, (2, 1)))
        asker.hear(kept_letter(1, (2, 1)))
        self.assertEqual(asker.outcome(), ("did", 5))

    def test_answers_of_other_kinds(self):
        rows = [(("take", 0), (1, 1, 1)), (("free", 0), (0, 0, None)), (("swap", "a", 1, 2), 0), (("put", "a", 0), 0)]
        for deed, answer in rows:
            asker = telling(deed=deed)
            asker.hear(kept_letter(0, (1, 1)))
            asker.hear(kept_letter(2, (1, 1)))
            self.assertEqual(repr(asker.outcome()), repr(("did", answer)))

    def test_its_own_move(self):
        asker = telling(deed=("move", NEXT), slate=OTHER, kept=(4, 0))
        asker.hear(kept_letter(0, (1, 1)))
        self.assertEqual(asker.hear(kept_letter(1, (1, 1))), [])
        behind = with_doing(OTHER, 1, 1, 1)
        self.assertEqual(state(asker), repr((("did", 1), 1, "calm", (1, 1), (1, NEXT, behind), False)))
        self.assertEqual(asker.begin(ADD), asks(1, [3, 4, 5], (2, 1), epoch=1))

    def test_a_deed_that_finds_the_slate_shut_with_a_hall(self):
        shut = with_shut(OTHER, NEXT)
        asker = Asker(1, THREE)
        asker.begin(ADD)
        asker.hear(grant(0, (1, 1), (4, 0), shut))
        self.assertEqual(asker.hear(grant(1, (1, 1))), tells(1, [0, 1, 2], (1, 1), ((4, 0), 1, ADD, shut)))
        self.silent(asker, late(2, 1, (6, 0)))
        asker.hear(kept_letter(0, (1, 1)))
        self.assertEqual(asker.hear(kept_letter(1, (1, 1))), asks(1, [3, 4, 5], (7, 1), epoch=1))
        self.assertEqual(state(asker), repr((None, 1, "asking", (7, 1), (1, NEXT, opened(shut)), False)))
        asker.hear(grant(3, (7, 1), epoch=1))
        told = asker.hear(grant(5, (7, 1), epoch=1))
        behind = ((("a", 5), ("b", 2)), ((0, 1, 0), (1, 1, 5)), (0, None), None)
        self.assertEqual(told, tells(1, [3, 4, 5], (7, 1), ((0, 0), 1, ADD, behind), epoch=1))
        asker.hear(kept_letter(3, (7, 1), epoch=1))
        asker.hear(kept_letter(5, (7, 1), epoch=1))
        self.assertEqual(asker.outcome(), ("did", 5))

    def test_a_deed_done_before_the_slate_was_shut_with_a_hall(self):
        shut = with_shut(FIVE, NEXT)
        asker = telling(slate=shut, kept=(4, 0))
        asker.hear(kept_letter(0, (1, 1)))
        self.assertEqual(asker.hear(kept_letter(1, (1, 1))), [])
        self.assertEqual(state(asker), repr((("did", 5), 1, "calm", (1, 1), (1, NEXT, FIVE), False)))

    def test_a_deed_that_finds_the_slate_over(self):
        shut = with_shut(OTHER, "over")
        asker = telling(slate=shut, kept=(4, 0))
        asker.hear(kept_letter(0, (1, 1)))
        self.assertEqual(asker.hear(kept_letter(1, (1, 1))), [])
        self.assertEqual(state(asker), repr((("over", None), 1, "calm", (1, 1), (0, THREE, blank()), True)))

    def test_a_deed_done_before_the_slate_was_over(self):
        shut = with_shut(FIVE, "over")
        asker = telling(slate=shut, kept=(4, 0))
        asker.hear(kept_letter(0, (1, 1)))
        self.assertEqual(asker.hear(kept_letter(1, (1, 1))), [])
        self.assertEqual(state(asker), repr((("did", 5), 1, "calm", (1, 1), (0, THREE, blank()), True)))

    def test_its_own_end(self):
        asker = telling(deed=("end",))
        asker.hear(kept_letter(0, (1, 1)))
        self.assertIs(asker.knows_over(), False)
        asker.hear(kept_letter(1, (1, 1)))
        self.assertEqual(state(asker), repr((("did", 1), 1, "calm", (1, 1), (0, THREE, blank()), True)))

    def test_through_two_halls(self):
        asker = telling(deed=("move", NEXT))
        asker.hear(kept_letter(0, (1, 1)))
        asker.hear(kept_letter(1, (1, 1)))
        asker.begin(("move", (0, 0)))
        asker.hear(grant(3, (2, 1), epoch=1))
        asker.hear(grant(4, (2, 1), epoch=1))
        asker.hear(kept_letter(3, (2, 1), epoch=1))
        asker.hear(kept_letter(4, (2, 1), epoch=1))
        self.assertEqual(asker.place(), (2, (0, 0), with_doing(blank(), 1, 2, 1)))


class ListsTest(AskerTest):

    def test_lists_that_are_told_are_the_callers_own(self):
        asker = Asker(1, THREE)
        asker.begin(ADD).clear()
        asker.bell().append(None)
        asker.hear(grant(0, (2, 1))).append(None)
        told = asker.hear(grant(1, (2, 1)))
        self.assertEqual(told, tells(1, [0, 1, 2], (2, 1), ((0, 0), 1, ADD, FIVE)))
        told.reverse()
        self.assertEqual(asker.hear(kept_letter(0, (2, 1))), [])
        asker.hear(kept_letter(1, (2, 1))).append(None)
        self.assertEqual(asker.outcome(), ("did", 5))
        asker.bell().append(None)
        self.assertEqual(asker.bell(), [])

    def test_two_askers_change_nothing_of_one_another(self):
        one, other = Asker(1, THREE), Asker(1, THREE)
        one.begin(ADD)
        self.assertEqual(state(other), state(Asker(1, THREE)))
        other.begin(ADD)
        one.hear(grant(0, (1, 1)))
        self.assertEqual(other.hear(grant(1, (1, 1))), [])
        self.assertEqual(other.stand(), "asking")


if __name__ == "__main__":
    unittest.main()
