"""A house: askers, keepers, the record of all letters, and the history of all wishes."""

from oneslate.askers import Asker
from oneslate.errors import NoAsker, NoHall, NoLetter
from oneslate.halls import is_hall
from oneslate.keepers import heard
from oneslate.letters import goes_to_keeper
from oneslate.masks import is_whole

MOST_ASKERS = 6
KEEPERS = 6


class House:
    """One hall's askers and all keepers, who know of one another by letters alone."""

    def __init__(self, hall, askers):
        if not is_hall(hall):
            raise NoHall("a house has a hall")
        if not is_whole(askers) or not 1 <= askers <= MOST_ASKERS:
            raise NoAsker("a house has one to six askers")
        self.askers = [Asker(me, hall) for me in range(askers)]
        self.books = [() for keeper in range(KEEPERS)]
        self.letters = []
        self.rows = []

    def begin(self, asker, deed=None):
        """Begin the asker's wish; tell the numbers of the letters written."""
        one = self.asker_of(asker)
        letters = one.begin(deed)
        self.rows.append(("begin", asker, one.number(), deed, self.many()))
        return self.write(letters)

    def bell(self, asker):
        """Ring the asker's bell; tell the numbers of the letters written."""
        return self.write(self.asker_of(asker).bell())

    def bring(self, k):
        """Bring the letter of that number; tell the numbers of the letters written."""
        letter = self.letter(k)
        if goes_to_keeper(letter):
            return self.write(self.bring_to_keeper(letter))
        return self.write(self.bring_to_asker(letter))

    def record(self):
        """Tell all letters written, as a list."""
        return list(self.letters)

    def history(self):
        """Tell all begins and ends, as a list."""
        return list(self.rows)

    def many(self):
        """Tell how many letters the record has."""
        return len(self.letters)

    def letter(self, k):
        """Tell the letter of that number."""
        if not is_whole(k) or not 0 <= k < self.many():
            raise NoLetter("no letter has that number")
        return self.letters[k]

    def book(self, keeper):
        """Tell the keeper's book."""
        return self.books[keeper]

    def outcome(self, asker):
        """Tell the outcome of the asker's last wish, or None."""
        return self.asker_of(asker).outcome()

    def stand(self, asker):
        """Tell how the asker stands."""
        return self.asker_of(asker).stand()

    def place(self, asker):
        """Tell the asker's (epoch, hall, opening)."""
        return self.asker_of(asker).place()

    def knows_over(self, asker):
        """Tell whether the asker knows that the slate is over."""
        return self.asker_of(asker).knows_over()

    def asker_of(self, asker):
        """Tell the asker of that number; refuse what is none."""
        if not is_whole(asker) or not 0 <= asker < len(self.askers):
            raise NoAsker("the house has no such asker")
        return self.askers[asker]

    def write(self, letters):
        """Put the letters into the record; tell their numbers."""
        first = self.many()
        self.letters.extend(letters)
        return list(range(first, self.many()))

    def bring_to_keeper(self, letter):
        """Let the keeper hear the letter; tell its answer, in a list."""
        told = heard(self.books[letter[2]], letter)
        self.books[letter[2]] = told[0]
        return [told[1]]

    def bring_to_asker(self, letter):
        """Let the asker hear the letter; tell the letters that it writes."""
        one = self.askers[letter[2]]
        before = one.stand()
        letters = one.hear(letter)
        if before != "calm" and one.stand() == "calm":
            self.rows.append(("end", letter[2], one.number(), one.outcome(), self.many()))
        return letters
