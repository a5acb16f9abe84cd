"""Promise 14: a keeper's book, and what it answers to an ask and to a tell."""

import itertools
import random
import unittest

from oneslate.keepers import heard, page_of, with_page
from oneslate.slates import blank, with_cell

ONE = with_cell(blank(), "a", 1)
TWO = with_cell(blank(), "a", 2)
NEVER = ((0, 0), (0, 0), None)
STAMPS = [(1, 0), (1, 2), (2, 0), (2, 1), (2, 5), (3, 1), (10, 0)]


def ask(stamp, epoch=0, keeper=4):
    return ("ask", stamp[1], keeper, epoch, stamp, ())


def tell(stamp, slate, epoch=0, keeper=4):
    return ("tell", stamp[1], keeper, epoch, stamp, ((0, 0), 1, ("put", "a", 1), slate))


def answer(word, stamp, load, epoch=0, keeper=4):
    return (word, keeper, stamp[1], epoch, stamp, load)


class PagesTest(unittest.TestCase):

    def test_an_epoch_never_heard_of(self):
        self.assertEqual(repr(page_of((), 0)), repr(NEVER))
        self.assertEqual(repr(page_of((), 7)), repr(NEVER))
        self.assertEqual(repr(page_of(((1, (2, 0), (1, 1), ONE),), 0)), repr(NEVER))
        self.assertEqual(repr(page_of(((1, (2, 0), (1, 1), ONE),), 2)), repr(NEVER))

    def test_put_in_any_order_of_epochs(self):
        pages = [(0, (1, 0), (0, 0), None), (1, (5, 2), (5, 2), ONE), (2, (9, 0), (3, 1), TWO)]
        pages.append((7, (2, 2), (0, 0), None))
        for order in itertools.permutations(pages):
            book = ()
            for page in order:
                book = with_page(book, *page)
            self.assertEqual(repr(book), repr(tuple(pages)))
            for page in pages:
                self.assertEqual(repr(page_of(book, page[0])), repr(page[1:]))

    def test_put_again(self):
        book = with_page(with_page((), 1, (1, 0), (0, 0), None), 0, (2, 0), (1, 1), ONE)
        before = repr(book)
        again = with_page(book, 1, (3, 1), (3, 1), TWO)
        self.assertEqual(again, ((0, (2, 0), (1, 1), ONE), (1, (3, 1), (3, 1), TWO)))
        again = with_page(again, 0, (4, 1), (4, 1), TWO)
        self.assertEqual(again, ((0, (4, 1), (4, 1), TWO), (1, (3, 1), (3, 1), TWO)))
        self.assertEqual(repr(book), before)


class AskTest(unittest.TestCase):

    def test_the_first_ask(self):
        told = heard((), ask((1, 0)))
        self.assertEqual(repr(told), repr((((0, (1, 0), (0, 0), None),), answer("grant", (1, 0), ((0, 0), None)))))

    def test_above_the_promised_stamp(self):
        book = ((0, (2, 1), (1, 3), ONE),)
        for stamp in [(2, 2), (2, 5), (3, 0), (10, 0)]:
            told = heard(book, ask(stamp))
            self.assertEqual(repr(told), repr((((0, stamp, (1, 3), ONE),), answer("grant", stamp, ((1, 3), ONE)))))

    def test_at_and_below_it(self):
        book = ((0, (2, 1), (1, 3), ONE),)
        for stamp in [(2, 1), (2, 0), (1, 5), (1, 3), (1, 0)]:
            self.assertEqual(repr(heard(book, ask(stamp))), repr((book, answer("late", stamp, ((2, 1),)))))

    def test_each_epoch_by_itself(self):
        book = ((1, (9, 1), (8, 3), ONE),)
        told = heard(book, ask((1, 0), epoch=0))
        self.assertEqual(told[0], ((0, (1, 0), (0, 0), None), (1, (9, 1), (8, 3), ONE)))
        self.assertEqual(told[1], answer("grant", (1, 0), ((0, 0), None), epoch=0))
        told = heard(book, ask((1, 0), epoch=1))
        self.assertEqual(told, (book, answer("late", (1, 0), ((9, 1),), epoch=1)))


class TellTest(unittest.TestCase):

    def test_of_an_epoch_never_heard_of(self):
        told = heard((), tell((1, 0), ONE, epoch=2))
        self.assertEqual(repr(told), repr((((2, (1, 0), (1, 0), ONE),), answer("kept", (1, 0), (), epoch=2))))

    def test_at_and_above_the_promised_stamp(self):
        book = ((0, (2, 1), (1, 3), ONE),)
        for stamp in [(2, 1), (2, 2), (3, 0), (10, 0)]:
            told = heard(book, tell(stamp, TWO))
            self.assertEqual(repr(told), repr((((0, stamp, stamp, TWO),), answer("kept", stamp, ()))))

    def test_below_it(self):
        book = ((0, (2, 1), (1, 3), ONE),)
        for stamp in [(2, 0), (1, 5), (1, 3), (1, 0)]:
            self.assertEqual(repr(heard(book, tell(stamp, TWO))), repr((book, answer("late", stamp, ((2, 1),)))))

    def test_twice(self):
        once = heard((), tell((1, 0), ONE))
        self.assertEqual(heard(once[0], tell((1, 0), ONE)), once)

    def test_late(self):
        book = heard(heard((), tell((1, 0), ONE))[0], ask((2, 1)))[0]
        self.assertEqual(book, ((0, (2, 1), (1, 0), ONE),))
        self.assertEqual(heard(book, tell((1, 0), ONE)), (book, answer("late", (1, 0), ((2, 1),))))

    def test_goes_back_to_whom_it_came_from(self):
        for asker, keeper in itertools.product(range(6), range(6)):
            told = heard((), tell((3, asker), ONE, keeper=keeper))[1]
            self.assertEqual(told, ("kept", keeper, asker, 0, (3, asker), ()))
            told = heard((), ask((3, asker), keeper=keeper))[1]
            self.assertEqual(told, ("grant", keeper, asker, 0, (3, asker), ((0, 0), None)))


class ManyLettersTest(unittest.TestCase):

    def test_promised_never_falls_and_the_book_handed_in_stays(self):
        drawn = random.Random(14)
        for _ in range(40):
            book = ()
            pages = {}
            for _ in range(25):
                stamp, epoch = drawn.choice(STAMPS), drawn.randrange(3)
                letter = drawn.choice([ask(stamp, epoch), tell(stamp, drawn.choice([ONE, TWO]), epoch)])
                before = repr(book)
                behind, told = heard(book, letter)
                self.assertEqual(repr(book), before)
                self.assertEqual(told, self.answer_by_words(pages, letter))
                self.assertEqual(behind, tuple((one,) + tuple(pages[one]) for one in sorted(pages)))
                book = behind

    def answer_by_words(self, pages, letter):
        word, asker, keeper, epoch, stamp, load = letter
        promised, kept, slate = pages.get(epoch, NEVER)
        above = stamp[0] * 10 + stamp[1] - promised[0] * 10 - promised[1]
        if word == "ask" and above > 0:
            pages[epoch] = [stamp, kept, slate]
            return ("grant", keeper, asker, epoch, stamp, (kept, slate))
        if word == "tell" and above >= 0:
            pages[epoch] = [stamp, stamp, load[3]]
            return ("kept", keeper, asker, epoch, stamp, ())
        return ("late", keeper, asker, epoch, stamp, (promised,))


if __name__ == "__main__":
    unittest.main()
