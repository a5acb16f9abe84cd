"""Promise 28: the desk and its rows. Promise 3, with a desk: nothing lost, nothing done twice, an end for good."""

import random
import unittest

from driving import drawn_deed
from oneslate.audit import does
from oneslate.desk import Desk
from oneslate.errors import Busy, NoAsker, NoLetter, NoRow, NoText, Over, SlateError
from oneslate.houses import House
from oneslate.lines import last_slate, line_of
from oneslate.quiet import settle
from oneslate.wishes import show_wish
from samples import HALLS, ODD_THINGS, SIGNS, bent, refused

THREE = ((2, (0, 1, 2)), (2, (0, 1, 2)))
TEXT = "2(0 1 2) / 2(0 1 2)"


def settled(desk, asker, wish, mask=63):
    """Begin a wish, settle it, and tell its outcome."""
    desk.say(f"begin {asker} {wish}")
    desk.say(f"settle {asker} {mask} 99")
    return desk.say(f"outcome {asker}")


def state(desk, askers=2):
    """Tell what rows tell that change nothing, and how many letters there are."""
    rows = [desk.say(f"outcome {asker}") for asker in range(askers)] + [desk.say("line"), desk.say("cell a")]
    return rows + [desk.house.many(), desk.house.history(), desk.house.record()]


class MakingTest(unittest.TestCase):

    def test_what_is_no_hall(self):
        for text in ["", "0", "0 / 1", "0/0", "1(0 1) / 1(0 1)", "0 / 0 ", "x" * 500, "0 / 0\n", "6 / 6", "(0, 0)"]:
            for askers in (1, 0, None, True):
                refused(self, NoText, Desk, text, askers)

    def test_askers_of_anything(self):
        for thing in ODD_THINGS + [0, 7, -1, True, False, None, "1", [1], (1,)]:
            if not (type(thing) is int and 1 <= thing <= 6):
                refused(self, NoAsker, Desk, TEXT, thing)
        for askers in range(1, 7):
            desk = Desk(TEXT, askers)
            self.assertEqual(desk.say(f"outcome {askers - 1}"), "none")
            if askers < 6:
                refused(self, NoAsker, desk.say, f"outcome {askers}")

    def test_bent_halls(self):
        for text in bent("0 / 0", SIGNS):
            if text not in ("0 / 0",):
                refused(self, NoText, Desk, text, 1)


class RowsTest(unittest.TestCase):

    def test_letter_by_letter(self):
        desk = Desk(TEXT, 2)
        rows = [
            ("line", "0 0"), ("cell a", "0"), ("outcome 0", "none"), ("bell 0", ""), ("settle 0 63 0", "0"),
            ("begin 0 add a 5", "0 1 2"), ("outcome 0", "none"), ("bring 0", "3"), ("bring 1", "4"), ("bring 3", ""),
            ("bring 4", "5 6 7"), ("line", "0 0"), ("bring 5", "8"), ("bring 7", "9"), ("line", "1 1"), ("cell a", "5"),
            ("outcome 0", "none"), ("bring 8", ""), ("bring 9", ""), ("outcome 0", "did 5"), ("outcome 1", "none"),
            ("begin 1 glance", "10 11 12"), ("bell 1", "13 14 15"), ("settle 1 7 0", "none"), ("settle 1 1 2", "none"),
            ("settle 1 7 2", "1"), ("outcome 1", "saw 0 5 1"), ("line", "2 1"), ("cell b", "0"),
        ]
        for row, answer in rows:
            self.assertEqual(desk.say(row), answer, row)

    def test_outcomes_of_each_kind(self):
        desk = Desk(TEXT, 4)
        rows = [
            (0, "glance", "saw 0 0 0"), (0, "put a -7", "did 0"), (1, "put a 0", "did -7"),
            (1, "add a " + "9" * 60, "did " + "9" * 60),
            (1, "add a 1", "did 1" + "0" * 60), (0, "swap a 0 1", "did 0"), (0, "take 0", "did 1 1 0"),
            (1, "take 0", "did 0 1 0"), (1, "renew 1", "did 0 1 0"), (0, "renew 1", "did 1 2 0"),
            (0, "sure 2 b 8", "did 1"),
            (1, "sure 2 b 9", "did 0"), (0, "free 2", "did 1 3 none"), (0, "free 2", "did 0 3 none"),
            (2, "move 2(3 4 5) / 2(3 4 5)", "did 1"), (2, "glance", "saw 1 0 0"), (2, "put c 1", "did 0"),
            (2, "end", "did 1"), (3, "put c 2", "over"), (1, "glance", "saw 1 over"),
        ]
        for asker, wish, outcome in rows:
            self.assertEqual(settled(desk, asker, wish), outcome, wish)
        self.assertEqual([desk.say("cell " + name) for name in "abcd"], ["1" + "0" * 60, "8", "1", "0"])
        refused(self, Over, desk.say, "begin 3 glance")

    def test_a_glance_behind_a_telling(self):
        desk = Desk(TEXT, 3)
        self.assertEqual(settled(desk, 2, "put c 1"), "did 0")
        self.assertEqual(settled(desk, 2, "glance"), "saw 0 2 2")
        settled(desk, 2, "move 0 / 0")
        settled(desk, 2, "put c 2")
        self.assertEqual(settled(desk, 2, "glance"), "saw 1 8 2")

    def test_a_line_with_links_that_do_nothing(self):
        desk = Desk("1(0 1 2) / 3(0 1 2)", 1)
        settled(desk, 0, "add a 5")
        self.assertEqual(desk.say("line"), "1 1")
        settled(desk, 0, "glance")
        self.assertEqual(desk.say("line"), "2 1")
        settled(desk, 0, "swap a 1 1")
        self.assertEqual(desk.say("line"), "3 2")

    def test_settle(self):
        desk = Desk(TEXT, 2)
        desk.say("begin 0 add a 1")
        self.assertEqual(desk.say("settle 0 0 99"), "none")
        self.assertEqual(desk.say("settle 0 56 3"), "none")
        self.assertEqual(desk.say("settle 0 7 99"), "1")
        self.assertEqual(desk.say("settle 0 63 99"), "0")
        desk.say("begin 1 add a 1")
        for _ in range(2):
            self.assertEqual(desk.say("settle 1 1 1"), "none")
        self.assertEqual(desk.say("settle 1 3 1"), "1")
        self.assertEqual(desk.say("outcome 1"), "did 2")


class NoRowTest(unittest.TestCase):

    def setUp(self):
        self.desk = Desk(TEXT, 2)
        settled(self.desk, 0, "add a 1")
        self.desk.say("begin 1 add a 1")
        self.before = state(self.desk)

    def check(self, kind, rows):
        for row in rows:
            refused(self, kind, self.desk.say, row)
        self.assertEqual(state(self.desk), self.before)

    def test_words(self):
        self.check(NoRow, ["", " ", "x", "begin", "begin ", "bell", "bring", "outcome", "cell", "settle", "lines",
            "Line"])
        self.check(NoRow, ["LINE", "glance", "end", "put a 1", "book 0", "many", "record", "stand 0", "say line", "\n"])

    def test_blanks(self):
        for row in ["bell 0", "bring 0", "outcome 0", "cell a", "line", "settle 0 1 1"]:
            self.check(NoRow, [" " + row, row + " ", row + "\n", row + "\t", "\n" + row, row + " 0",
                row.replace(" ", "  ", 1) + " "])
            if " " in row:
                self.check(NoRow, [row.replace(" ", "  "), row.replace(" ", ""), row.replace(" ", "\t"),
                    row.split(" ")[0]])
        self.check(NoRow, [" begin 0 glance", "begin  0 glance", "begin 0", "begin0 glance", "begin\t0 glance",
            "begin 0glance"])
        self.check(NoRow, ["begin 0\tglance", "begin 0\n", "begin  ", "begin glance", "begin 00 glance",
            "begin -0 glance"])

    def test_askers(self):
        signs = [sign for sign in SIGNS if sign not in "012345"] + ["00", "01", "-1", "10", "+1", "", "a", "none"]
        for sign in signs:
            self.check(NoRow, [f"bell {sign}", f"outcome {sign}", f"settle {sign} 1 1", f"begin {sign} glance"])

    def test_numbers(self):
        numbers = ["-1", "-0", "00", "01", "+1", "", "a", "1.0", "1 2", "1" * 61, "0x1", " 1", "1 ", "1\n", "none"]
        for number in numbers:
            self.check(NoRow, [f"bring {number}", f"settle 0 {number} 1", f"settle 0 1 {number}"])

    def test_bounds_of_settle(self):
        for mask in ("64", "65", "100", "9" * 60):
            self.check(NoRow, [f"settle 0 {mask} 1", f"settle 5 {mask} 1"])
        for bells in ("100", "101", "999", "9" * 60):
            self.check(NoRow, [f"settle 0 1 {bells}", f"settle 5 1 {bells}"])
        self.assertEqual(self.desk.say("settle 0 63 99"), "0")
        self.assertEqual(self.desk.say("settle 0 0 0"), "0")
        self.check(NoRow, ["settle 0 1", "settle 0", "settle", "settle 0 1 1 1"])

    def test_names(self):
        for name in ["", "A", "a1", "abcdefghi", "aB", "a b", "1", "a_", "a\n", "\ta"]:
            self.check(NoRow, [f"cell {name}"])
        self.assertEqual(self.desk.say("cell abcdefgh"), "0")

    def test_no_text(self):
        wishes = ["", " ", "glance ", " glance", "x", "put a", "put a 5 ", "put  a 5", "move 0 / 1", "end 1",
            "take -1", "\n", "glance\n"]
        self.check(NoText, [f"begin {asker} {wish}" for asker in "012345" for wish in wishes])

    def test_what_the_house_refuses(self):
        self.check(NoAsker, [f"{word} {asker}" for word in ("bell", "outcome") for asker in "2345"])
        self.check(NoAsker, [f"begin {asker} glance" for asker in "2345"] + ["settle 2 0 0", "settle 5 63 99"])
        self.check(Busy, ["begin 1 glance", "begin 1 add a 5", "begin 1 end"])
        many = self.before[4]
        self.check(NoLetter, [f"bring {many}", f"bring {many + 1}", "bring " + "9" * 60])
        self.assertEqual(self.desk.say(f"bring {many - 1}"), str(many))

    def test_over(self):
        desk = Desk(TEXT, 2)
        settled(desk, 0, "end")
        before = state(desk)
        for row in ("begin 0 glance", "begin 0 add a 1", "begin 0 end"):
            refused(self, Over, desk.say, row)
        refused(self, NoText, desk.say, "begin 0 put")
        self.assertEqual(state(desk), before)

    def test_which_comes_first(self):
        self.check(NoRow, ["begin 6 put", "begin 9 glance", "begin x x", "settle 9 64 100", "settle 5 64 1",
            "bring -1"])
        self.check(NoText, ["begin 5 put", "begin 1 put", "begin 3 "])
        self.check(NoAsker, ["begin 5 glance"])

    def test_long_rows(self):
        self.check(NoRow, ["x" * 500, " " * 500, "bell " + "0" * 495, "bring " + "1" * 494, "line" * 125,
            "cell " + "a" * 495])
        self.check(NoText, ["begin 0 " + "x" * 492, "begin 0 " + " " * 492, "begin 0 move " + "1(" * 243])

    def test_bent_rows(self):
        words = ("begin", "bell", "bring", "outcome", "cell", "line", "settle")
        for row in ["bell 0", "line", "cell a", "outcome 0", "begin 0 x", "settle 0 1 0"]:
            for other in bent(row, SIGNS):
                many = self.desk.house.many()
                try:
                    answer = self.desk.say(other)
                except SlateError as error:
                    self.assertEqual(self.desk.house.many(), many)
                    self.assertIn(type(error), (NoRow, NoText, NoAsker, NoLetter), other)
                    if type(error) is NoText:
                        self.assertRegex(other, r"^begin [0-5] ")
                    continue
                self.assertIs(type(answer), str)
                self.assertIn(other.split(" ")[0], words)


class AgainstAHouseTest(unittest.TestCase):

    def test_it_answers_as_a_house_does(self):
        for seed in range(25):
            drawn = random.Random(seed)
            desk, house = Desk(TEXT, 3), House(THREE, 3)
            for _ in range(120):
                asker = drawn.randrange(3)
                step = drawn.random()
                if step < 0.3:
                    deed = drawn_deed(drawn, True)
                    self.same(desk, f"begin {asker} {show_wish(deed)}", house.begin, asker, deed)
                elif step < 0.35:
                    self.same(desk, f"bell {asker}", house.bell, asker)
                elif step < 0.4:
                    mask, bells = drawn.randrange(64), drawn.randrange(3)
                    told = settle(house, asker, mask, bells)
                    self.assertEqual(desk.say(f"settle {asker} {mask} {bells}"), "none" if told is None else str(told))
                else:
                    k = drawn.randrange(max(0, house.many() - 9), house.many() + 1)
                    self.same(desk, f"bring {k}", house.bring, k)
            line = line_of(house.record(), THREE)
            done = [place for place in range(len(line)) if does(line, place)]
            self.assertEqual(desk.say("line"), f"{len(line)} {len(done)}")
            self.assertEqual(desk.say("cell a"), str(dict(last_slate(line)[0]).get("a", 0)))

    def same(self, desk, row, call, *args):
        try:
            told = call(*args)
        except SlateError as error:
            refused(self, type(error), desk.say, row)
        else:
            self.assertEqual(desk.say(row), " ".join([str(one) for one in told]))


class WholeTest(unittest.TestCase):

    def test_nothing_lost_nothing_done_twice_and_an_end_for_good(self):
        for seed in range(12):
            drawn = random.Random(seed)
            desk = Desk("2(0 1 2) / 2(0 1 2)", 3)
            total = 0
            for turn in range(15):
                asker = drawn.randrange(3)
                letters = desk.say(f"begin {asker} add a 1").split()
                for _ in range(drawn.randrange(20)):
                    if letters:
                        letters += desk.say(f"bring {drawn.choice(letters)}").split()
                if turn % 5 == 4:
                    settled(desk, (asker + 1) % 3, drawn.choice(["move 2(3 4 5) / 2(3 4 5)", "glance", "move 0 / 0"]))
                while desk.say(f"settle {asker} 63 1") == "none":
                    pass
                total += 1
                self.assertEqual(desk.say(f"outcome {asker}"), f"did {total}")
                self.assertEqual(desk.say("cell a"), str(total))
            self.assertEqual(settled(desk, 1, "end"), "did 1")
            line = desk.say("line")
            for asker in (0, 2):
                self.assertEqual(settled(desk, asker, "add a 1"), "over")
                refused(self, Over, desk.say, f"begin {asker} add a 1")
            self.assertEqual((desk.say("cell a"), desk.say("line")), (str(total), line))

    def test_two_desks_side_by_side(self):
        one, other = Desk(TEXT, 2), Desk(TEXT, 2)
        settled(one, 0, "add a 5")
        self.assertEqual((other.say("line"), other.say("cell a"), other.say("outcome 0")), ("0 0", "0", "none"))
        self.assertEqual((one.say("line"), one.say("cell a"), one.say("outcome 0")), ("1 1", "5", "did 5"))

    def test_halls_of_each_kind(self):
        for hall in HALLS:
            desk = Desk(show_wish(("move", hall))[5:], 6)
            self.assertEqual(settled(desk, 5, "add a 5"), "did 5")


if __name__ == "__main__":
    unittest.main()
