"""Promise 5: what a rule is. Promise 2: of anything."""

import copy
import unittest

from oneslate.rules import is_rule
from samples import ODD_THINGS, RULES, RULES_BEYOND, chained, wrapped

SIX = (0, 1, 2, 3, 4, 5)


class IsRuleTest(unittest.TestCase):

    def check(self, told, things):
        for thing in things:
            with self.subTest(thing):
                self.assertIs(is_rule(thing), told)

    def test_rules(self):
        self.check(True, RULES)
        self.check(False, RULES_BEYOND)

    def test_keepers(self):
        self.check(True, SIX)
        self.check(False, [-1, 6, 7, -5, 63, 10 ** 99, -10 ** 99])
        self.check(True, [(1, (0,)), (1, (5,))])
        self.check(False, [(1, (-1,)), (1, (6,)), (1, (0, 6)), (1, (-1, 0)), (2, (0, (1, (6,))))])

    def test_k(self):
        for many in range(1, 7):
            parts = SIX[:many]
            self.check(True, [(k, parts) for k in range(1, many + 1)])
            self.check(False, [(k, parts) for k in (0, -1, many + 1, 10 ** 99, -10 ** 99)])
        self.check(False, [(1, (0, (0, (1,)))), (1, (0, (2, (1,))))])
        self.check(False, [(None, (0,)), ("1", (0,)), ((1,), (0,)), ([1], (0,))])

    def test_how_many_parts(self):
        self.check(True, [(1, (0,)), (1, SIX), (6, SIX), (6, (0,) * 6)])
        self.check(False, [(0, ()), (1, ()), (1, SIX + (0,)), (7, SIX + (0,)), (1, (0,) * 1000)])
        self.check(False, [(1, (0, (1, ()))), (1, (0, (1, SIX + (0,))))])

    def test_how_many_keepers_are_named(self):
        self.check(True, [(1, ((1, SIX), (1, SIX))), (2, ((1, SIX), (1, SIX)))])
        self.check(False, [(1, ((1, SIX), (1, SIX), 0)), (1, (0, (1, SIX), (1, SIX)))])
        self.check(True, [(1, ((1, (3,) * 6), (1, (3,) * 6)))])
        self.check(False, [(1, ((1, (3,) * 6), (1, (3,) * 6), 3))])
        self.check(True, [(1, (0, 1, 2, 3, 4, (1, (5, 5, 5, 5, 5, (1, (0, 0))))))])
        self.check(False, [(1, (0, 1, 2, 3, 4, (1, (5, 5, 5, 5, 5, (1, (0, 0, 0))))))])
        self.check(True, [(1, (chained((1, SIX), 2), (1, SIX)))])

    def test_how_deep(self):
        self.check(True, [chained(2, deep) for deep in range(5)])
        self.check(False, [chained(2, deep) for deep in range(5, 12)])
        self.check(True, [(1, (0, chained(1, 3), 2)), (2, (chained(0, 3), chained(1, 3)))])
        self.check(False, [(1, (0, chained(1, 4), 2)), (1, (0, 1, chained(2, 4))), (1, (chained(0, 4), 1))])

    def test_truths_are_no_whole_numbers(self):
        self.check(False, [True, False, (True, (0,)), (1, (True,)), (1, (False,)), (1, (0, True))])
        self.check(False, [(True, (0, 1)), (1, (0, (True, (1,)))), (1, (0, (1, (False,))))])

    def test_lists_make_no_rule(self):
        self.check(False, [[1, (0,)], [1, [0]], (1, [0]), (1, [0, 1]), [1, (0, 1)]])
        self.check(False, [(1, (0, [1, (1,)])), (1, (0, (1, [1]))), (1, ([0],)), [0]])

    def test_tuples_of_other_lengths(self):
        self.check(False, [(), (1,), ((0,),), (0,), (1, (0,), ()), (1, (0,), (0,)), (1, 0), (1, 0, 1)])
        self.check(False, [(1, (0, (1,))), (1, (0, (1, (1,), 2))), (1, (0, ())), ((0,), 1)])

    def test_odd_things(self):
        self.check(False, ODD_THINGS)
        self.check(False, [(1, (thing,)) for thing in ODD_THINGS])
        self.check(False, [(1, (0, thing, 1)) for thing in ODD_THINGS])
        self.check(False, [(1, thing) for thing in ODD_THINGS if thing != (0,) and thing != (1, 2, 3)])
        self.check(False, [(thing, (0, 1)) for thing in ODD_THINGS])

    def test_things_nested_twenty_deep(self):
        self.check(False, [wrapped(0, 20), wrapped(0, 20, list), wrapped((), 19), wrapped([], 19, list)])
        self.check(False, [chained(0, 10), chained(wrapped(0, 10), 5), wrapped(chained(0, 5), 10)])

    def test_six_parts_at_every_depth(self):
        rule = (1, SIX)
        self.check(True, [rule])
        for _ in range(4):
            rule = (1, (rule,) * 6)
            self.check(False, [rule])

    def test_what_is_handed_in_stays_as_it_was(self):
        for thing in ([1, [0, 1]], (1, [0, [1, (2,)]]), wrapped(0, 20, list)):
            before = copy.deepcopy(thing)
            is_rule(thing)
            self.assertEqual(thing, before)


if __name__ == "__main__":
    unittest.main()
