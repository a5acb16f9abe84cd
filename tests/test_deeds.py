"""Promise 11: names, numbers, fences, and what a deed is. Promise 2: of anything."""

import copy
import unittest

from oneslate.deeds import is_deed, is_fence, is_name, is_number
from samples import HALLS, ODD_THINGS, PARTED, wrapped

HALL = HALLS[1]
DEEDS = [
    ("put", "a", 5), ("add", "abcdefgh", -5), ("swap", "z", 0, 10 ** 60 - 1), ("take", 0), ("renew", 10 ** 60 - 1),
    ("free", 7), ("sure", 3, "az", 1 - 10 ** 60), ("move", HALL), ("end",),
]
GOOD = {
    "name": ["a", "z", "ab", "abcdefgh", "zzzzzzzz"],
    "number": [0, 1, -1, 10 ** 60 - 1, 1 - 10 ** 60],
    "fence": [0, 1, 10 ** 60 - 1],
    "hall": HALLS,
}
BAD = {
    "name": [
        "", "abcdefghi", "A", "aB", "a1", "1", "a b", " a", "a ", "a\n", "\n", "a\t", "a_", "a-b", "a~", "{", "`", "@",
        "a" * 1000,
    ],
    "number": [10 ** 60, -10 ** 60, 10 ** 61, 10 ** 99, -10 ** 99],
    "fence": [-1, 10 ** 60, -10 ** 60, 10 ** 99],
    "hall": PARTED + [(0,), (0, 0, 0), [0, 0], ((1, [0]), 0), (True, True)],
}
FORMS = {
    "put": ["name", "number"], "add": ["name", "number"], "swap": ["name", "number", "number"], "take": ["fence"],
    "renew": ["fence"], "free": ["fence"], "sure": ["fence", "name", "number"], "move": ["hall"], "end": [],
}


def is_part(kind, thing):
    """Tell it of the samples above and of odd things alone, by the document's words."""
    if kind == "name":
        return isinstance(thing, str) and 0 < len(thing) < 9 and thing.isascii() and thing.isalpha() and thing.islower()
    if kind == "hall":
        return thing in HALLS and not isinstance(thing[0], bool)
    return type(thing) is int and abs(thing) < 10 ** 60 and (kind == "number" or thing >= 0)


class PartsTest(unittest.TestCase):

    def check(self, call, kind):
        for thing in GOOD[kind]:
            self.assertIs(call(thing), True, thing)
        for thing in BAD[kind]:
            self.assertIs(call(thing), False, thing)
        for thing in ODD_THINGS + [wrapped(0, 20), ["a"], ("a",), [5], (5,), "5"]:
            self.assertIs(call(thing), is_part(kind, thing), thing)

    def test_names(self):
        self.check(is_name, "name")

    def test_numbers(self):
        self.check(is_number, "number")

    def test_fences(self):
        self.check(is_fence, "fence")

    def test_each_sign_in_a_name(self):
        for code in [9, 10] + list(range(32, 127)):
            for text in (chr(code), "a" + chr(code), chr(code) + "a", "ab" + chr(code) + "c"):
                self.assertIs(is_name(text), "a" <= chr(code) <= "z", text)

    def test_each_length_of_a_name(self):
        for many in range(12):
            self.assertIs(is_name("q" * many), 1 <= many <= 8)


class IsDeedTest(unittest.TestCase):

    def check(self, told, things):
        for thing in things:
            with self.subTest(thing):
                self.assertIs(is_deed(thing), told)

    def test_right_parts(self):
        self.check(True, DEEDS)
        for hall in HALLS:
            self.check(True, [("move", hall)])

    def test_each_part_good_bad_and_odd(self):
        things = [one for kind in GOOD for one in GOOD[kind] + BAD[kind]] + ODD_THINGS
        for deed in DEEDS:
            for place, kind in enumerate(FORMS[deed[0]], start=1):
                for thing in things:
                    bent = deed[:place] + (thing,) + deed[place + 1:]
                    self.assertIs(is_deed(bent), is_part(kind, thing), bent)

    def test_one_part_fewer_and_one_more(self):
        for deed in DEEDS:
            self.check(False, [deed[:-1], deed[1:], deed + (0,), deed + ("a",), deed + (None,), deed + deed[-1:]])
            self.check(False, [deed[:1] + (0,) + deed[1:], deed + ((),), deed[:1] + ("a",) + deed[1:]])
            if len(deed) > 1:
                self.check(False, [deed[:1]])

    def test_a_part_in_another_ones_place(self):
        for deed in DEEDS:
            if len(deed) == 3:
                self.check(False, [(deed[0], deed[2], deed[1]), (deed[1], deed[0], deed[2])])
            if len(deed) == 4:
                self.check(False, [(deed[0], deed[2], deed[1], deed[3])])
        self.check(False, [("sure", "a", 3, 5), ("sure", 3, 5, "a"), ("swap", 0, "a", 1), ("swap", 0, 1, "a")])

    def test_lists_in_the_place_of_tuples(self):
        for deed in DEEDS:
            self.check(False, [list(deed), [deed], (deed,), (list(deed),)])
        self.check(False, [("move", list(HALL)), ("move", (list(HALL[0]), HALL[1])), ("put", ["a"], 5), ("take", [0])])
        self.check(False, [(["put"], "a", 5), (("put",), "a", 5), (["end"],), (("end",),)])

    def test_truths_as_numbers(self):
        self.check(False, [("put", "a", True), ("add", "a", False), ("swap", "a", True, 0), ("swap", "a", 0, True)])
        self.check(False, [("take", False), ("renew", True), ("free", True), ("sure", True, "a", 0)])
        self.check(False, [("sure", 0, "a", True), ("move", (False, False)), ("move", True), (True, "a", 5)])

    def test_none(self):
        self.check(False, [None, (None,), (None, "a", 5), ("put", None, 5), ("put", "a", None), ("take", None)])
        self.check(False, [("move", None), ("end", None), ()])

    def test_words_bent(self):
        for deed in DEEDS:
            word = deed[0]
            bent = [word.upper(), word.title(), word + "s", word[:-1], word[1:], " " + word, word + " ", word + "\n",
                ""]
            self.check(False, [(one,) + deed[1:] for one in bent + [None, 0, 1, True, (), [], word[::-1]]])
        for word in FORMS:
            for other in DEEDS:
                if FORMS[word] != FORMS[other[0]]:
                    self.check(False, [(word,) + other[1:]])

    def test_texts_that_look_like_deeds(self):
        self.check(False, ["end", "put", "put a 5", "('end',)", "e", "", ("e",), ("name", "number")])

    def test_odd_things(self):
        self.check(False, ODD_THINGS + [(one,) for one in ODD_THINGS] + [wrapped("end", 20), wrapped("end", 2)])

    def test_what_is_handed_in_stays_as_it_was(self):
        thing = ["put", ["a"], [5, [("move", [0, 0])]]]
        before = copy.deepcopy(thing)
        is_deed(thing)
        is_deed(tuple(thing))
        is_deed(("move", [[0], 0]))
        self.assertEqual(thing, before)


if __name__ == "__main__":
    unittest.main()
