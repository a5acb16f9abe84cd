"""Promises 21 and 22: what a tenant has seen, holds, believes and wishes."""

import unittest

from oneslate.slates import blank, with_lease, with_shut
from oneslate.tenants import Tenant

# The wait for this span is 15 ticks.
SPAN, SLOW, FAST = 10, 2, 3


def tenant(me=1):
    return Tenant(me, SPAN, SLOW, FAST)


def saw(fence, holder, stamp=(3, 0), shut=None):
    return ("saw", (0, stamp, with_shut(with_lease(blank(), fence, holder), shut)))


def told(one, deed, begin, outcome, end):
    """Tell the tenant of a wish's begin and end."""
    one.began(deed, begin)
    one.ended(outcome, end)


def state(one):
    return repr((one.seen(), one.holds()))


class SeenTest(unittest.TestCase):

    def test_at_first(self):
        one = tenant()
        self.assertIsNone(one.seen())
        self.assertIsNone(one.holds())
        self.assertIs(one.believes(0), False)
        self.assertIsNone(one.wish(0))
        self.assertIsNone(one.wish(10 ** 61))

    def test_by_glances(self):
        one = tenant()
        told(one, None, 2, saw(0, None), 5)
        self.assertEqual(repr(one.seen()), "(0, None, 5)")
        told(one, None, 6, saw(3, 0), 8)
        self.assertEqual(one.seen(), (3, 0, 8))
        told(one, None, 9, saw(4, 1), 11)
        self.assertEqual(one.seen(), (4, 1, 11))
        told(one, None, 12, saw(5, None, None, "over"), 13)
        self.assertEqual(one.seen(), (5, None, 13))
        told(one, None, 14, saw(6, 2, (0, 0)), 15)
        self.assertEqual(one.seen(), (6, 2, 15))

    def test_by_takes_renews_and_frees_done_and_not_done(self):
        for word in ("take", "renew", "free"):
            for answer in [(1, 4, 1), (0, 4, 2), (0, 7, None), (1, 4, None)]:
                one = tenant()
                told(one, (word, 3), 2, ("did", answer), 6)
                self.assertEqual(repr(one.seen()), repr(answer[1:] + (6,)))

    def test_the_same_fence_again_keeps_its_time(self):
        one = tenant()
        told(one, None, 2, saw(3, 0), 5)
        told(one, None, 6, saw(3, 0), 9)
        self.assertEqual(one.seen(), (3, 0, 5))
        told(one, ("take", 1), 10, ("did", (0, 3, 0)), 12)
        self.assertEqual(one.seen(), (3, 0, 5))
        told(one, ("take", 3), 12, ("did", (1, 4, 1)), 14)
        told(one, ("renew", 2), 15, ("did", (0, 4, 1)), 17)
        self.assertEqual(one.seen(), (4, 1, 14))

    def test_a_fence_of_0_counts(self):
        one = tenant()
        told(one, None, 2, saw(0, None), 5)
        told(one, None, 6, saw(0, None), 7)
        self.assertEqual(one.seen(), (0, None, 5))

    def test_other_wishes_tell_no_lease(self):
        one = tenant()
        told(one, ("add", "a", 4), 0, ("did", 4), 1)
        told(one, ("sure", 4, "a", 4), 1, ("did", 0), 2)
        told(one, ("take", 0), 2, ("over", None), 3)
        told(one, ("swap", "a", 1, 1), 3, ("did", 1), 4)
        self.assertEqual(state(one), "(None, None)")


class HoldsTest(unittest.TestCase):

    def test_since_the_begin_not_the_end(self):
        for word in ("take", "renew"):
            one = tenant()
            told(one, (word, 3), 2, ("did", (1, 4, 1)), 6)
            self.assertEqual(repr(one.holds()), "(4, 2)")

    def test_not_done(self):
        for word in ("take", "renew"):
            for answer in [(0, 3, 1), (0, 3, 2), (0, 3, None)]:
                one = tenant()
                told(one, (word, 4), 2, ("did", answer), 6)
                self.assertIsNone(one.holds())

    def test_anew_by_each_renewal(self):
        one = tenant()
        told(one, ("take", 3), 2, ("did", (1, 4, 1)), 6)
        told(one, ("renew", 4), 8, ("did", (1, 5, 1)), 9)
        self.assertEqual(one.holds(), (5, 8))
        self.assertEqual(one.seen(), (5, 1, 9))
        one.began(("renew", 5), 12)
        self.assertEqual(one.holds(), (5, 8))

    def test_a_lease_of_somebody_else_or_of_nobody(self):
        ends = [
            (None, saw(5, 0)), (None, saw(5, None)), (None, saw(4, 0)), (("take", 1), ("did", (0, 5, 2))),
            (("renew", 4), ("did", (0, 6, None))), (None, saw(5, 2, None, "over")),
        ]
        for deed, outcome in ends:
            one = tenant()
            told(one, ("take", 3), 2, ("did", (1, 4, 1)), 6)
            one.began(deed, 7)
            self.assertEqual(one.holds(), (4, 2))
            one.ended(outcome, 8)
            self.assertIsNone(one.holds())

    def test_its_own_lease_seen_again(self):
        for deed, outcome in [(None, saw(4, 1)), (("take", 1), ("did", (0, 4, 1))), (("add", "a", 1), ("did", 1))]:
            one = tenant()
            told(one, ("take", 3), 2, ("did", (1, 4, 1)), 6)
            told(one, deed, 7, outcome, 8)
            self.assertEqual(one.holds(), (4, 2))

    def test_seeing_its_own_lease_holds_nothing(self):
        one = tenant()
        told(one, None, 2, saw(4, 1), 3)
        self.assertIsNone(one.holds())

    def test_beginning_to_free(self):
        for outcome in [("did", (1, 5, None)), ("did", (0, 4, 1)), ("over", None)]:
            one = tenant()
            told(one, ("take", 3), 2, ("did", (1, 4, 1)), 6)
            one.began(("free", 4), 7)
            self.assertIsNone(one.holds())
            one.ended(outcome, 8)
            self.assertIsNone(one.holds())

    def test_told_over(self):
        one = tenant()
        told(one, ("take", 3), 2, ("did", (1, 4, 1)), 6)
        told(one, ("renew", 4), 7, ("over", None), 8)
        self.assertEqual(one.holds(), (4, 2))

    def test_tenant_0(self):
        one = tenant(0)
        told(one, ("take", 3), 2, ("did", (1, 4, 0)), 6)
        self.assertEqual(one.holds(), (4, 2))
        told(one, None, 7, saw(5, None), 8)
        self.assertIsNone(one.holds())


class BelievesTest(unittest.TestCase):

    def test_below_the_span_at_it_and_beyond(self):
        one = tenant()
        told(one, ("take", 3), 2, ("did", (1, 4, 1)), 6)
        for time in (6, 7, 10, 11):
            self.assertIs(one.believes(time), True)
        for time in (12, 13, 10 ** 61):
            self.assertIs(one.believes(time), False)

    def test_a_wish_that_took_longer_than_the_span(self):
        one = tenant()
        told(one, ("take", 3), 2, ("did", (1, 4, 1)), 12)
        self.assertEqual(one.holds(), (4, 2))
        self.assertIs(one.believes(12), False)

    def test_a_span_of_one(self):
        one = Tenant(1, 1, 1, 1)
        told(one, ("take", 3), 2, ("did", (1, 4, 1)), 2)
        self.assertEqual([one.believes(time) for time in (2, 3)], [True, False])


class WishTest(unittest.TestCase):

    def test_its_own_lease(self):
        one = tenant()
        told(one, None, 2, saw(4, 1), 3)
        for time in (3, 17, 18, 19, 99):
            self.assertEqual(repr(one.wish(time)), "('renew', 4)")

    def test_nobodys_lease(self):
        one = tenant()
        told(one, None, 2, saw(0, None), 3)
        for time in (3, 17, 18, 19, 99):
            self.assertEqual(repr(one.wish(time)), "('take', 0)")

    def test_somebody_elses_lease(self):
        for me, other in [(1, 0), (0, 5), (2, 1)]:
            one = tenant(me)
            told(one, None, 2, saw(4, other), 3)
            for time in (3, 4, 13, 17):
                self.assertIsNone(one.wish(time))
            for time in (18, 19, 99):
                self.assertEqual(repr(one.wish(time)), "('take', 4)")

    def test_the_wait_goes_from_the_time_at_which_it_was_first_seen(self):
        one = tenant()
        told(one, None, 2, saw(4, 0), 3)
        told(one, None, 9, saw(4, 0), 12)
        self.assertIsNone(one.wish(17))
        self.assertEqual(one.wish(18), ("take", 4))
        told(one, None, 18, saw(5, 0), 18)
        self.assertIsNone(one.wish(32))
        self.assertEqual(one.wish(33), ("take", 5))

    def test_asking_changes_nothing(self):
        one = tenant()
        told(one, ("take", 3), 2, ("did", (1, 4, 1)), 6)
        before = state(one)
        for time in (6, 11, 12, 99):
            one.wish(time)
            one.believes(time)
            one.seen()
            one.holds()
        self.assertEqual(state(one), before)
        self.assertIs(one.believes(6), True)

    def test_two_tenants_change_nothing_of_one_another(self):
        one, other = tenant(), tenant()
        told(one, ("take", 3), 2, ("did", (1, 4, 1)), 6)
        self.assertEqual(state(other), "(None, None)")


if __name__ == "__main__":
    unittest.main()
