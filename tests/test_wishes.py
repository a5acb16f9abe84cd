"""Promise 27: wishes, written and read."""

import re
import unittest

from oneslate.deeds import is_deed
from oneslate.errors import NoText
from oneslate.texts import read_hall, show_hall
from oneslate.wishes import read_wish, show_wish
from samples import HALLS, PARTED, SHORT_SIGNS, SIGNS, bent, refused

BIG = 10 ** 60 - 1
ROWS = [
    (None, "glance"), (("put", "a", 5), "put a 5"), (("put", "abcdefgh", -BIG), f"put abcdefgh -{BIG}"),
    (("add", "z", 0), "add z 0"), (("swap", "ab", -1, 20), "swap ab -1 20"), (("take", 0), "take 0"),
    (("renew", 17), "renew 17"), (("free", BIG), f"free {BIG}"), (("sure", 3, "b", -4), "sure 3 b -4"),
    (("move", (0, 0)), "move 0 / 0"), (("move", ((2, (0, 1, 2)), (2, (0, 1, 2)))), "move 2(0 1 2) / 2(0 1 2)"),
    (("end",), "end"),
]
NAME = "[a-z]{1,8}"
FENCE = "(?:0|[1-9][0-9]{0,59})"
NUMBER = "(?:0|-?[1-9][0-9]{0,59})"
FORMS = "|".join([
    "glance", "end", f"put {NAME} {NUMBER}", f"add {NAME} {NUMBER}", f"swap {NAME} {NUMBER} {NUMBER}",
    f"(?:take|renew|free) {FENCE}", f"sure {FENCE} {NAME} {NUMBER}",
])


def writes_wish(text):
    if text.startswith("move "):
        try:
            return show_hall(read_hall(text[5:])) == text[5:]
        except NoText:
            return False
    return re.fullmatch(FORMS, text) is not None


class WishesTest(unittest.TestCase):

    def test_each_form(self):
        for deed, text in ROWS:
            self.assertEqual(show_wish(deed), text)
            self.assertEqual(repr(read_wish(text)), repr(deed))

    def test_halls(self):
        for hall in HALLS:
            self.assertEqual(repr(read_wish(show_wish(("move", hall)))), repr(("move", hall)))
        for hall in PARTED:
            refused(self, NoText, read_wish, "move " + show_hall(hall))

    def test_bent_texts(self):
        for deed, text in ROWS:
            for other in bent(text, SIGNS if len(text) < 16 else SHORT_SIGNS):
                if writes_wish(other):
                    told = read_wish(other)
                    self.assertEqual(show_wish(told), other)
                    self.assertTrue(told is None or is_deed(told))
                else:
                    refused(self, NoText, read_wish, other)

    def test_parts_too_many_too_few_and_in_other_places(self):
        texts = [
            "", " ", "put", "put ", "put a", "put a ", "put a 5 ", "put a 5 6", "put 5 a", "put  a 5", "put a  5",
            " put a 5",
            "puta 5", "put a5", "add a", "swap a 1", "swap a 1 2 3", "swap 1 a 2", "take", "take ", "take -1", "take a",
            "take 1 2", "renew", "renew -1", "free", "free x", "sure 1 a", "sure a 1 2", "sure -1 a 2", "sure 1 2 a",
            "move",
            "move ", "move 0", "move 0 / 1", "move  0 / 0", "move 0 / 0 ", "move 0/0", "end ", " end", "end 1", "ends",
            "End",
            "END", "glance ", " glance", "glance 1", "glances", "None", "none", "nil", "put\ta\t5", "put a 5\n",
            "\nput a 5",
            "put A 5", "put abcdefghi 5", "put  5", "put a 05", "put a +5", "put a -0", "take 00", "take 1" + "0" * 60,
            "put a 1" + "0" * 60, "put a -1" + "0" * 60, "number 5", "name a", "hall 0 / 0", "put a 5 put a 5",
            "x" * 500,
            "put " * 125, " " * 500,
        ]
        for text in texts:
            refused(self, NoText, read_wish, text)


if __name__ == "__main__":
    unittest.main()
