"""Promise 11: what each deed does and answers. Promise 12: a deed done on a slate, once."""

import copy
import random
import unittest

from oneslate.doing import along, done_on, outcome_of
from oneslate.slates import blank

HALL = ((2, (0, 1, 2)), (2, (0, 1, 2)))
BIG = 10 ** 60 - 1
SLATE = ((("a", 4), ("b", -2)), ((1, 3, 8), (2, 6, (1, 5, 2))), (5, 2), None)


def slate_with(cells=SLATE[0], lease=SLATE[2], shut=None):
    return (cells, SLATE[1], lease, shut)


class OutcomeOfTest(unittest.TestCase):

    def check(self, asker, deed, slate, answer):
        before = repr(SLATE)
        told = outcome_of(SLATE, asker, deed)
        self.assertEqual(repr(told), repr((slate, answer)))
        self.assertEqual(repr(SLATE), before)

    def test_put(self):
        self.check(0, ("put", "a", 7), slate_with(cells=(("a", 7), ("b", -2))), 4)
        self.check(0, ("put", "a", 4), SLATE, 4)
        self.check(0, ("put", "a", 0), slate_with(cells=(("b", -2),)), 4)
        self.check(0, ("put", "ab", BIG), slate_with(cells=(("a", 4), ("ab", BIG), ("b", -2))), 0)
        self.check(0, ("put", "c", 0), SLATE, 0)

    def test_add(self):
        self.check(0, ("add", "a", 7), slate_with(cells=(("a", 11), ("b", -2))), 11)
        self.check(0, ("add", "a", -4), slate_with(cells=(("b", -2),)), 0)
        self.check(0, ("add", "a", 0), SLATE, 4)
        self.check(0, ("add", "b", -BIG), slate_with(cells=(("a", 4), ("b", -10 ** 60 - 1))), -10 ** 60 - 1)
        self.check(0, ("add", "c", 3), slate_with(cells=(("a", 4), ("b", -2), ("c", 3))), 3)
        self.check(0, ("add", "c", 0), SLATE, 0)

    def test_swap(self):
        self.check(0, ("swap", "a", 4, 9), slate_with(cells=(("a", 9), ("b", -2))), 1)
        self.check(0, ("swap", "a", 5, 9), SLATE, 0)
        self.check(0, ("swap", "a", 9, 4), SLATE, 0)
        self.check(0, ("swap", "a", 4, 0), slate_with(cells=(("b", -2),)), 1)
        self.check(0, ("swap", "c", 0, 1), slate_with(cells=(("a", 4), ("b", -2), ("c", 1))), 1)
        self.check(0, ("swap", "c", 1, 0), SLATE, 0)
        self.check(0, ("swap", "b", -2, -2), SLATE, 1)

    def test_take(self):
        self.check(0, ("take", 5), slate_with(lease=(6, 0)), (1, 6, 0))
        self.check(2, ("take", 5), slate_with(lease=(6, 2)), (1, 6, 2))
        for fence in (0, 4, 6, BIG):
            self.check(0, ("take", fence), SLATE, (0, 5, 2))

    def test_renew(self):
        self.check(2, ("renew", 5), slate_with(lease=(6, 2)), (1, 6, 2))
        self.check(0, ("renew", 5), SLATE, (0, 5, 2))
        self.check(2, ("renew", 4), SLATE, (0, 5, 2))
        self.check(2, ("renew", 6), SLATE, (0, 5, 2))

    def test_free(self):
        self.check(2, ("free", 5), slate_with(lease=(6, None)), (1, 6, None))
        self.check(0, ("free", 5), SLATE, (0, 5, 2))
        self.check(2, ("free", 4), SLATE, (0, 5, 2))
        self.check(2, ("free", 6), SLATE, (0, 5, 2))

    def test_sure(self):
        self.check(2, ("sure", 5, "a", 7), slate_with(cells=(("a", 7), ("b", -2))), 1)
        self.check(2, ("sure", 5, "a", 0), slate_with(cells=(("b", -2),)), 1)
        self.check(2, ("sure", 4, "a", 7), SLATE, 0)
        self.check(2, ("sure", 6, "a", 7), SLATE, 0)
        self.check(0, ("sure", 5, "a", 7), SLATE, 0)

    def test_a_lease_of_nobody(self):
        free = slate_with(lease=(5, None))
        self.assertEqual(outcome_of(free, 3, ("take", 5)), (slate_with(lease=(6, 3)), (1, 6, 3)))
        self.assertEqual(outcome_of(free, 3, ("take", 4)), (free, (0, 5, None)))
        self.assertEqual(outcome_of(free, 3, ("renew", 5)), (free, (0, 5, None)))
        self.assertEqual(outcome_of(free, 3, ("free", 5)), (free, (0, 5, None)))
        self.assertEqual(outcome_of(free, 3, ("sure", 5, "a", 1)), (free, 0))
        self.assertEqual(outcome_of(blank(), 0, ("take", 0)), (((), (), (1, 0), None), (1, 1, 0)))

    def test_fences_at_the_bound(self):
        last = slate_with(lease=(BIG, 1))
        self.assertEqual(outcome_of(last, 0, ("take", BIG)), (slate_with(lease=(BIG + 1, 0)), (1, BIG + 1, 0)))

    def test_move_and_end(self):
        self.check(0, ("move", HALL), slate_with(shut=HALL), 1)
        self.check(0, ("end",), slate_with(shut="over"), 1)


class DoneOnTest(unittest.TestCase):

    def test_a_number_below_at_and_above_the_last_one_done(self):
        deed = ("add", "a", 1)
        for number in (1, 2, 3):
            self.assertEqual(done_on(SLATE, 1, number, deed), SLATE)
        for number in (4, 5, 10 ** 61):
            told = ((("a", 5), ("b", -2)), ((1, number, 5), (2, 6, (1, 5, 2))), (5, 2), None)
            self.assertEqual(repr(done_on(SLATE, 1, number, deed)), repr(told))

    def test_the_first_deed_of_an_asker(self):
        told = ((("a", 4), ("b", -2)), ((0, 1, 0), (1, 3, 8), (2, 6, (1, 5, 2))), (5, 2), None)
        self.assertEqual(repr(done_on(SLATE, 0, 1, ("put", "c", 0))), repr(told))

    def test_a_deed_that_does_nothing_is_a_doing_too(self):
        told = (SLATE[0], ((1, 3, 8), (2, 6, (1, 5, 2)), (4, 2, 0)), (5, 2), None)
        self.assertEqual(done_on(SLATE, 4, 2, ("swap", "a", 0, 1)), told)
        told = (SLATE[0], ((1, 4, (0, 5, 2)), (2, 6, (1, 5, 2))), (5, 2), None)
        self.assertEqual(done_on(SLATE, 1, 4, ("renew", 5)), told)

    def test_each_deed_once(self):
        for deed in [("add", "a", 1), ("put", "a", 9), ("swap", "a", 4, 5), ("take", 5), ("sure", 5, "a", 8)]:
            once = done_on(SLATE, 2, 7, deed)
            self.assertNotEqual(once, SLATE)
            self.assertEqual(done_on(once, 2, 7, deed), once)

    def test_a_shut_slate(self):
        for shut in ("over", HALL):
            slate = slate_with(shut=shut)
            for deed in [("add", "a", 1), ("put", "a", 9), ("take", 5), ("end",), ("move", (0, 0)), None]:
                self.assertEqual(done_on(slate, 0, 9, deed), slate)

    def test_the_deed_that_shuts_is_a_doing(self):
        self.assertEqual(done_on(blank(), 3, 2, ("end",)), ((), ((3, 2, 1),), (0, None), "over"))
        self.assertEqual(done_on(blank(), 3, 2, ("move", HALL)), ((), ((3, 2, 1),), (0, None), HALL))

    def test_none(self):
        for slate in (blank(), SLATE, slate_with(shut="over"), slate_with(shut=HALL)):
            for number in (1, 3, 9):
                self.assertEqual(done_on(slate, 1, number, None), slate)


class AlongTest(unittest.TestCase):

    def test_no_rows_one_and_many(self):
        self.assertEqual(along(SLATE, []), [])
        self.assertEqual(along(SLATE, [(1, 3, ("add", "a", 1))]), [SLATE])
        self.assertEqual(along(blank(), [(1, 1, ("add", "a", 1))]), [((("a", 1),), ((1, 1, 1),), (0, None), None)])
        rows = [
            (0, 1, ("add", "a", 2)), (1, 1, ("add", "a", 3)), (0, 1, ("add", "a", 2)), (0, 2, None),
            (0, 3, ("put", "a", 0)), (1, 2, ("end",)), (0, 4, ("put", "a", 1)),
        ]
        first = ((("a", 2),), ((0, 1, 2),), (0, None), None)
        second = ((("a", 5),), ((0, 1, 2), (1, 1, 5)), (0, None), None)
        third = ((), ((0, 3, 5), (1, 1, 5)), (0, None), None)
        last = ((), ((0, 3, 5), (1, 2, 1)), (0, None), "over")
        before = copy.deepcopy(rows)
        self.assertEqual(along(blank(), rows), [first, second, second, second, third, last, last])
        self.assertEqual(rows, before)

    def test_one_behind_the_other(self):
        drawn = random.Random(12)
        deeds = [None, ("add", "a", 2), ("put", "b", 3), ("swap", "a", 2, 1), ("take", 0), ("take", 1), ("renew", 1)]
        for _ in range(80):
            rows = [(drawn.randrange(3), drawn.randrange(1, 6), drawn.choice(deeds)) for _ in range(12)]
            told = along(SLATE, rows)
            self.assertIs(type(told), list)
            slate = SLATE
            for row, behind in zip(rows, told, strict=True):
                slate = done_on(slate, *row)
                self.assertEqual(behind, slate)

    def test_told_again_where_the_list_was_changed(self):
        rows = [(0, 1, ("add", "a", 2)), (0, 2, ("add", "a", 2))]
        before = tuple(along(SLATE, rows))
        along(SLATE, rows).clear()
        self.assertEqual(tuple(along(SLATE, rows)), before)


if __name__ == "__main__":
    unittest.main()
