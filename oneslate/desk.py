"""The desk: a house that is told rows and answers each with a text."""

from oneslate.deeds import is_name
from oneslate.errors import NoRow, NoText
from oneslate.houses import House
from oneslate.lines import line_of
from oneslate.quiet import settle
from oneslate.sums import done_in, sum_of
from oneslate.texts import read_fence, read_hall
from oneslate.wishes import read_wish

ASKERS = ("0", "1", "2", "3", "4", "5")
LAST_MASK = 63
MOST_BELLS = 99

ROWS = {
    "bell": ("asker",),
    "bring": ("letter",),
    "outcome": ("asker",),
    "cell": ("name",),
    "line": (),
    "settle": ("asker", "mask", "bells"),
}


def read_asker(text):
    """Tell the asker that a row's part writes."""
    if text not in ASKERS:
        raise NoRow("an asker is written as a figure from 0 to 5")
    return int(text)


def read_count(text):
    """Tell the number from 0 on that a row's part writes."""
    try:
        return read_fence(text)
    except NoText:
        raise NoRow("a number is not written so") from None


def read_bounded(text, most):
    """Tell the number from 0 to the greatest one that a row's part writes."""
    number = read_count(text)
    if number > most:
        raise NoRow("a bound is passed")
    return number


def read_piece(kind, text):
    """Tell what a row's part of that kind writes."""
    if kind == "asker":
        return read_asker(text)
    if kind == "letter":
        return read_count(text)
    if kind == "mask":
        return read_bounded(text, LAST_MASK)
    if kind == "bells":
        return read_bounded(text, MOST_BELLS)
    if not is_name(text):
        raise NoRow("a name has one to eight small letters")
    return text


def read_row(row):
    """Tell the row's word and parts as a list, of any row but begin."""
    words = row.split(" ")
    form = ROWS.get(words[0])
    if form is None or len(words) != len(form) + 1:
        raise NoRow("there is no such row")
    return [words[0]] + [read_piece(kind, text) for kind, text in zip(form, words[1:])]


def show_all(things):
    """Tell the things with one blank between, None as none."""
    return " ".join(["none" if thing is None else str(thing) for thing in things])


def show_saw(seen):
    """Tell the text of what a glance was told."""
    if seen[1] is None:
        return show_all(["saw", seen[0], "over"])
    return show_all(["saw", seen[0], seen[1][0], seen[1][1]])


def show_outcome(outcome):
    """Tell the text of an outcome, or of None."""
    if outcome is None:
        return "none"
    if outcome[0] == "saw":
        return show_saw(outcome[1])
    if outcome[0] == "over":
        return "over"
    if isinstance(outcome[1], tuple):
        return show_all(["did"] + list(outcome[1]))
    return show_all(["did", outcome[1]])


class Desk:
    """A house with the hall that the text writes."""

    def __init__(self, text, askers):
        self.hall = read_hall(text)
        self.house = House(self.hall, askers)

    def say(self, row):
        """Tell the answer to the row."""
        if row.startswith("begin "):
            return self.say_begin(row)
        told = read_row(row)
        word = told[0]
        if word == "bell":
            return show_all(self.house.bell(told[1]))
        if word == "bring":
            return show_all(self.house.bring(told[1]))
        if word == "outcome":
            return show_outcome(self.house.outcome(told[1]))
        if word == "settle":
            return show_all([settle(self.house, told[1], told[2], told[3])])
        links = line_of(self.house.record(), self.hall)
        if word == "cell":
            return str(sum_of(links, told[1]))
        return show_all([len(links), len(done_in(links))])

    def say_begin(self, row):
        """Tell the answer to a row that begins a wish."""
        found = row[len("begin "):].partition(" ")
        asker = read_asker(found[0])
        if found[1] != " ":
            raise NoRow("behind the asker stands a blank")
        return show_all(self.house.begin(asker, read_wish(found[2])))
