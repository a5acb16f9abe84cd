"""Promise 6: papers, and whether a tree of anything reads as yes or as no."""

import copy
import itertools
import unittest

from oneslate.rules import paper_of, reads
from samples import ALL_MASKS, ODD_THINGS, RULES, RULES_BEYOND, filled_by, keepers_in


def count_due(rule, told):
    return rule[0] if told else len(rule[1]) - rule[0] + 1


def all_papers(rule, mask, told):
    """Tell all trees that read so, by the document's words."""
    if isinstance(rule, int):
        return [rule] if (rule in keepers_in(mask)) == told else []
    choices = [[(place, tree) for tree in all_papers(part, mask, told)] for place, part in enumerate(rule[1])]
    papers = []
    for places in itertools.combinations(range(len(choices)), count_due(rule, told)):
        papers.extend(itertools.product(*[choices[place] for place in places]))
    return papers


def some_papers(rule, told, most):
    """Tell some trees that read so for some mask, each once."""
    found = {}
    for mask in ALL_MASKS:
        for tree in all_papers(rule, mask, told)[:most]:
            found[tree] = True
    return list(found)


def wrong_leaves(keeper):
    leaves = [keeper + 1, keeper - 1, None, str(keeper), (keeper,), [keeper], (), ((0, keeper),), 10 ** 99]
    return leaves + [bool(keeper)] if keeper in (0, 1) else leaves


def wrong_pairs(pair):
    place, tree = pair
    pairs = [
        (place,), (place, tree, tree), (tree,), [place, tree], (tree, place), (), None, place, "pair",
        (-1, tree), (6, tree), (-1 - place, tree), (None, tree), (str(place), tree), ((place,), tree),
        ([place], tree), (10 ** 99, tree),
    ]
    return pairs + [(bool(place), tree)] if place in (0, 1) else pairs


def distorted(tree):
    """Tell trees that differ from a paper at one place, most of them papers of nothing."""
    if isinstance(tree, int):
        return wrong_leaves(tree)
    found = [list(tree), tree[1:], tree[:-1], tree + tree[-1:], tree[:1] + tree, (tree,), None, "tree", 0, 1, True]
    if len(tree) > 1:
        found.append(tree[::-1])
        found.append(tree[:1] + tree[:1] + tree[2:])
    for at, pair in enumerate(tree):
        others = [(pair[0], other) for other in distorted(pair[1])]
        others += [(place, pair[1]) for place in range(7) if place != pair[0]]
        found += [tree[:at] + (other,) + tree[at + 1:] for other in wrong_pairs(pair) + others]
    return found


class PaperOfTest(unittest.TestCase):

    def test_of_a_keeper(self):
        for keeper in range(6):
            for mask in ALL_MASKS:
                self.assertEqual(repr(paper_of(keeper, mask)), repr(keeper))

    def test_rows_by_hand(self):
        two = (2, (0, 1, 2))
        deep = (2, (0, (1, (1, 2)), 3))
        rows = [
            (two, 7, ((0, 0), (1, 1))), (two, 6, ((1, 1), (2, 2))), (two, 5, ((0, 0), (2, 2))),
            (two, 0, ((0, 0), (1, 1))), (two, 1, ((1, 1), (2, 2))), (two, 2, ((0, 0), (2, 2))),
            ((1, (5, 3, 4)), 24, ((1, 3),)), ((1, (5, 3, 4)), 7, ((0, 5), (1, 3), (2, 4))),
            ((3, (5, 3, 4)), 56, ((0, 5), (1, 3), (2, 4))), ((3, (5, 3, 4)), 32, ((1, 3),)),
            ((2, (4, 4, 1)), 16, ((0, 4), (1, 4))), ((2, (4, 4, 1)), 2, ((0, 4), (1, 4))),
            (deep, 10, ((1, ((0, 1),)), (2, 3))), (deep, 15, ((0, 0), (1, ((0, 1),)))),
            (deep, 4, ((0, 0), (2, 3))), (deep, 0, ((0, 0), (1, ((0, 1), (1, 2))))),
            (deep, 8, ((0, 0), (1, ((0, 1), (1, 2))))), (deep, 13, ((0, 0), (1, ((1, 2),)))),
        ]
        for rule, mask, paper in rows:
            with self.subTest(rule=rule, mask=mask):
                self.assertEqual(repr(paper_of(rule, mask)), repr(paper))

    def test_the_first_places_each_and_just_so_many(self):
        for rule in RULES + RULES_BEYOND:
            for mask in ALL_MASKS:
                told = filled_by(rule, keepers_in(mask))
                with self.subTest(rule=rule, mask=mask):
                    self.check_first(rule, mask, told, paper_of(rule, mask))

    def check_first(self, rule, mask, told, paper):
        if isinstance(rule, int):
            self.assertEqual(repr(paper), repr(rule))
            return
        parts = rule[1]
        fitting = [place for place in range(len(parts)) if filled_by(parts[place], keepers_in(mask)) == told]
        self.assertIs(isinstance(paper, tuple), True)
        self.assertEqual([place for place, tree in paper], fitting[:count_due(rule, told)])
        for pair in paper:
            self.assertIs(isinstance(pair, tuple), True)
            self.check_first(parts[pair[0]], mask, told, pair[1])


class ReadsTest(unittest.TestCase):

    def check(self, rule, masks, trees):
        for mask, told in itertools.product(masks, (True, False)):
            fitting = {repr(tree) for tree in all_papers(rule, mask, told)}
            for tree in trees:
                if reads(rule, mask, told, tree) is not (repr(tree) in fitting):
                    self.fail(f"reads({rule!r}, {mask!r}, {told!r}, {tree!r}) is wrong")

    def test_its_own_paper_reads_just_as_it_is(self):
        for rule in RULES + RULES_BEYOND:
            for mask in ALL_MASKS:
                told = filled_by(rule, keepers_in(mask))
                with self.subTest(rule=rule, mask=mask):
                    self.assertIs(reads(rule, mask, told, paper_of(rule, mask)), True)
                    self.assertIs(reads(rule, mask, not told, paper_of(rule, mask)), False)

    def test_papers_of_all_masks(self):
        for rule in RULES:
            trees = [paper_of(rule, mask) for mask in ALL_MASKS]
            self.check(rule, ALL_MASKS, trees + some_papers(rule, True, 3) + some_papers(rule, False, 3))

    def test_other_than_the_first_places(self):
        rule = (2, (0, 1, 2, 3))
        self.assertIs(reads(rule, 15, True, ((1, 1), (3, 3))), True)
        self.assertIs(reads(rule, 15, True, ((3, 3), (1, 1))), False)
        self.assertIs(reads(rule, 7, True, ((1, 1), (3, 3))), False)
        self.assertIs(reads(rule, 0, False, ((0, 0), (2, 2), (3, 3))), True)
        self.assertIs(reads(rule, 0, False, ((0, 0), (1, 1), (2, 2), (3, 3))), False)
        self.assertIs(reads(rule, 0, False, ((0, 0), (3, 3))), False)

    def test_doubled_places(self):
        rule = (2, (4, 4, 1))
        self.assertIs(reads(rule, 16, True, ((0, 4), (1, 4))), True)
        self.assertIs(reads(rule, 16, True, ((0, 4), (0, 4))), False)
        self.assertIs(reads(rule, 16, True, ((1, 4), (1, 4))), False)

    def test_distorted_papers(self):
        for rule in RULES:
            trees = {}
            for mask, told in itertools.product((0, 21, 42, 63), (True, False)):
                for paper in all_papers(rule, mask, told)[:2]:
                    for tree in distorted(paper):
                        trees[repr(tree)] = tree
            self.check(rule, (0, 1, 6, 21, 42, 56, 63), trees.values())

    def test_truths_are_no_places_and_no_keepers(self):
        rule = (2, (0, 1))
        self.assertIs(reads(rule, 3, True, ((0, 0), (1, 1))), True)
        for tree in (((False, 0), (1, 1)), ((0, 0), (True, 1)), ((0, False), (1, 1)), ((0, 0), (1, True))):
            self.assertIs(reads(rule, 3, True, tree), False)
        self.assertIs(reads(1, 2, True, True), False)
        self.assertIs(reads(0, 0, False, False), False)

    def test_odd_things(self):
        things = ODD_THINGS + [(thing,) for thing in ODD_THINGS] + [((0, thing),) for thing in ODD_THINGS]
        for rule in RULES:
            self.check(rule, (0, 5, 63), things)

    def test_what_is_handed_in_stays_as_it_was(self):
        tree = [[0, 0], ([1], [1, [2]])]
        before = copy.deepcopy(tree)
        for told in (True, False):
            reads((2, (0, 1)), 3, told, tree)
            reads((2, (0, 1)), 3, told, tuple(tree))
        self.assertEqual(tree, before)


if __name__ == "__main__":
    unittest.main()
