"""Promise 27: rules, halls, numbers and fences, written and read."""

import random
import re
import unittest

from oneslate.errors import NoText
from oneslate.halls import is_hall
from oneslate.texts import read_fence, read_hall, read_number, read_rule, show_hall, show_rule
from samples import HALLS, PARTED, RULES, RULES_BEYOND, SHORT_SIGNS, SIGNS, bent, refused

BIG = 10 ** 60 - 1


def writes_rule(text):
    """Tell whether the text writes a rule: its innermost choices are taken out, one row of them after another."""
    named = 0
    deep = 0
    if "x" in text:
        return False
    while not re.fullmatch(r"[0-5]|x", text):
        pieces = re.findall(r"[0-9]\([0-5x](?: [0-5x])*\)", text)
        if not pieces or deep == 4:
            return False
        for piece in pieces:
            parts = piece[2:-1].split(" ")
            named += len([part for part in parts if part != "x"])
            if not 1 <= int(piece[0]) <= len(parts) <= 6:
                return False
        text = re.sub(r"[0-9]\([0-5x](?: [0-5x])*\)", "x", text)
        deep += 1
    return named <= 12


class RulesTest(unittest.TestCase):

    def test_by_hand(self):
        rows = [
            (0, "0"), (5, "5"), ((1, (3,)), "1(3)"), ((2, (0, 1, 2)), "2(0 1 2)"),
            ((6, (0, 1, 2, 3, 4, 5)), "6(0 1 2 3 4 5)"),
            ((2, (0, (1, (1, 2)), 3)), "2(0 1(1 2) 3)"), ((1, ((1, ((1, ((1, (2,)),)),)),)), "1(1(1(1(2))))"),
            ((1, ((2, (0, 1)), (1, (5, 5)))), "1(2(0 1) 1(5 5))"),
        ]
        for rule, text in rows:
            self.assertEqual(show_rule(rule), text)
            self.assertEqual(repr(read_rule(text)), repr(rule))

    def test_read_back_to_the_same(self):
        for rule in RULES:
            self.assertEqual(repr(read_rule(show_rule(rule))), repr(rule))

    def test_rules_beyond_are_refused(self):
        for rule in RULES_BEYOND:
            refused(self, NoText, read_rule, show_rule(rule))

    def test_what_writes_none(self):
        texts = [
            "", " ", "6", "7", "9", "-1", "00", "01", "10", "0 ", " 0", "0 1", "a", "x", "0\n", "\t0", "()", "(0)",
            "1()",
            "1( 0)", "1(0 )", "1(0  1)", "1 (0)", "1(0", "1(0))", "1(0)0", "1(0) ", "1(0)(1)", "(1(0))", "0(0)",
            "0(0 1)",
            "2(0)", "7(0 1 2 3 4 5)", "7(0 1 2 3 4 5 0)", "1(0 1 2 3 4 5 0)", "3(0 1)", "1(6)", "1(0,1)", "1(0\t1)",
            "1(0\n1)", "1[0]", "01(0)", "+1(0)", "1(1(1(1(1(0)))))", "1(1(0 1 2 3 4 5) 1(0 1 2 3 4 5) 0)", "1((0))",
            "1(0 1", "1(", "1(1(", "2(0 (1))", "0 / 0", "1(0)1(0)", "12(0)", "1(10)",
        ]
        for text in texts:
            refused(self, NoText, read_rule, text)

    def test_bounds(self):
        for text in ["6(0 0 0 0 0 0)", "1(1(0 1 2 3 4 5) 1(0 1 2 3 4 5))", "1(1(1(1(0))))",
            "1(0 1 2 3 4 1(5 5 5 5 5 1(0 0)))"]:
            self.assertEqual(show_rule(read_rule(text)), text)
        refused(self, NoText, read_rule, "1(0 1 2 3 4 1(5 5 5 5 5 1(0 0 0)))")

    def test_bent_texts(self):
        for rule in RULES:
            text = show_rule(rule)
            for other in bent(text, SIGNS if len(text) < 12 else SHORT_SIGNS):
                if writes_rule(other):
                    self.assertEqual(show_rule(read_rule(other)), other)
                else:
                    refused(self, NoText, read_rule, other)

    def test_five_hundred_signs(self):
        texts = ["1(" * 250, "1(" * 166 + "0" + ")" * 166, "0" * 500, " " * 500, "1(" + "0 " * 248 + "0)", "(" * 500]
        texts += ["1(1(" + "0 " * 240 + "0))", "1(" * 4 + "0 " * 240 + "0))))", "5" + ")" * 499, "\n" * 500]
        for text in texts:
            self.assertLessEqual(len(text), 500)
            refused(self, NoText, read_rule, text)
            refused(self, NoText, read_hall, text)


class HallsTest(unittest.TestCase):

    def test_by_hand(self):
        self.assertEqual(show_hall((0, 0)), "0 / 0")
        self.assertEqual(show_hall(((2, (0, 1, 2)), (2, (0, 1, 2)))), "2(0 1 2) / 2(0 1 2)")
        self.assertEqual(repr(read_hall("2(0 1) / 2(0 1 5)")), repr(((2, (0, 1)), (2, (0, 1, 5)))))

    def test_read_back_to_the_same(self):
        for hall in HALLS:
            self.assertEqual(repr(read_hall(show_hall(hall))), repr(hall))

    def test_two_rules_that_part(self):
        for hall in PARTED:
            refused(self, NoText, read_hall, show_hall(hall))

    def test_what_writes_none(self):
        texts = [
            "", "0", "/", " / ", "0/0", "0 /0", "0/ 0", "0  / 0", "0 /  0", " 0 / 0", "0 / 0 ", "0 / 0 / 0", "0 / ",
            " / 0",
            "0 // 0", "0 \\ 0", "0 / 0\n", "0\t/ 0", "0 /\t0", "0 / 6", "6 / 0", "2(0) / 0", "0 / 0(0)", "0 0",
            "(0 / 0)",
            "0 / 1", "1(0 1) / 1(0 1)", "1(1(1(1(1(0))))) / 0", "0 / 1(0 0 0 0 0 0 0)",
        ]
        for text in texts:
            refused(self, NoText, read_hall, text)

    def test_bent_texts(self):
        for hall in HALLS:
            text = show_hall(hall)
            for other in bent(text, SIGNS if len(text) < 12 else SHORT_SIGNS):
                halves = other.split(" / ")
                if len(halves) == 2 and all(writes_rule(half) for half in halves):
                    rules = (read_rule(halves[0]), read_rule(halves[1]))
                    if is_hall(rules):
                        self.assertEqual(read_hall(other), rules)
                        self.assertEqual(show_hall(read_hall(other)), other)
                        continue
                refused(self, NoText, read_hall, other)


class NumbersTest(unittest.TestCase):

    def test_read_back_to_the_same(self):
        drawn = random.Random(27)
        numbers = [0, 1, 9, 10, 11, 99, 100, BIG, BIG - 1, 10 ** 59] + [drawn.randrange(10 ** 60) for _ in range(50)]
        for number in numbers:
            self.assertEqual(repr(read_fence(str(number))), repr(number))
            self.assertEqual(repr(read_number(str(number))), repr(number))
            self.assertEqual(repr(read_number(str(-number))), repr(-number))
            if number > 0:
                refused(self, NoText, read_fence, str(-number))

    def test_what_writes_none(self):
        texts = [
            "", " ", "-", "--1", "-0", "-00", "00", "01", "007", "-01", "+1", "+0", "1+", "1-", "- 1", " 1", "1 ",
            "1\n", "\n1",
            "\t1", "1 2", "1_000", "1.0", "1e5", "0x1", "a", "1a", "10" + "0" * 59, "1" * 61, "-" + "1" * 61, "9" * 500,
            "0" * 60, "-" * 60, "1,000", "none", "(1)", "0" + "1" * 59,
        ]
        for text in texts:
            refused(self, NoText, read_number, text)
            refused(self, NoText, read_fence, text)

    def test_sixty_figures_and_sixty_one(self):
        for figure in "123456789":
            self.assertEqual(read_number(figure * 60), int(figure * 60))
            self.assertEqual(read_number("-" + figure * 60), -int(figure * 60))
            self.assertEqual(read_fence(figure * 60), int(figure * 60))
            for text in (figure * 61, "-" + figure * 61):
                refused(self, NoText, read_number, text)
                refused(self, NoText, read_fence, text)

    def test_bent_texts(self):
        for text in ["0", "7", "10", "-5", "-10", "120", "9" * 60, "-" + "1" * 60]:
            for other in bent(text, SIGNS if len(text) < 9 else SHORT_SIGNS):
                number = re.fullmatch(r"0|-?[1-9][0-9]{0,59}", other)
                if number:
                    self.assertEqual(repr(read_number(other)), other)
                else:
                    refused(self, NoText, read_number, other)
                if number and other[0] != "-":
                    self.assertEqual(repr(read_fence(other)), other)
                else:
                    refused(self, NoText, read_fence, other)


if __name__ == "__main__":
    unittest.main()
