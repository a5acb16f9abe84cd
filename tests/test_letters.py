"""Promise 13: letters, part by part."""

import unittest

from oneslate.letters import answer_to, ask_letter, goes_to_keeper, tell_letter
from oneslate.slates import blank

LOAD = ((3, 1), 4, ("add", "a", 5), blank())


class LettersTest(unittest.TestCase):

    def test_ask(self):
        self.assertEqual(repr(ask_letter(2, 5, 1, (7, 2))), repr(("ask", 2, 5, 1, (7, 2), ())))

    def test_tell(self):
        self.assertEqual(repr(tell_letter(2, 5, 1, (7, 2), LOAD)), repr(("tell", 2, 5, 1, (7, 2), LOAD)))

    def test_answers_go_back(self):
        ask = ("ask", 2, 5, 1, (7, 2), ())
        tell = ("tell", 0, 3, 10 ** 61, (10 ** 61, 0), LOAD)
        granted = ((3, 1), blank())
        self.assertEqual(repr(answer_to(ask, "grant", granted)), repr(("grant", 5, 2, 1, (7, 2), granted)))
        self.assertEqual(repr(answer_to(ask, "late", ((8, 0),))), repr(("late", 5, 2, 1, (7, 2), ((8, 0),))))
        self.assertEqual(repr(answer_to(tell, "kept", ())), repr(("kept", 3, 0, 10 ** 61, (10 ** 61, 0), ())))

    def test_which_go_to_a_keeper(self):
        ask = ask_letter(2, 5, 1, (7, 2))
        tell = tell_letter(2, 5, 1, (7, 2), LOAD)
        self.assertIs(goes_to_keeper(ask), True)
        self.assertIs(goes_to_keeper(tell), True)
        self.assertIs(goes_to_keeper(answer_to(ask, "grant", ((0, 0), None))), False)
        self.assertIs(goes_to_keeper(answer_to(tell, "kept", ())), False)
        self.assertIs(goes_to_keeper(answer_to(tell, "late", ((8, 0),))), False)


if __name__ == "__main__":
    unittest.main()
