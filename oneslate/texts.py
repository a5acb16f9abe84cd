"""Rules, halls, numbers and fences, written and read."""

from oneslate.errors import NoText
from oneslate.halls import is_hall
from oneslate.masks import is_whole
from oneslate.rules import MOST_DEEP, is_rule

FIGURES = {"0": 0, "1": 1, "2": 2, "3": 3, "4": 4, "5": 5, "6": 6, "7": 7, "8": 8, "9": 9}
MOST_FIGURES = 60


def show_rule(rule):
    """Tell the text that writes the rule."""
    if is_whole(rule):
        return str(rule)
    parts = " ".join([show_rule(part) for part in rule[1]])
    return str(rule[0]) + "(" + parts + ")"


def show_hall(hall):
    """Tell the text that writes the hall."""
    return show_rule(hall[0]) + " / " + show_rule(hall[1])


def parts_at(text, place, deep):
    """Tell the parts whose text begins at the place, and the place behind the sign that closes them."""
    parts = []
    sign = " "
    while sign == " ":
        found = rule_at(text, place, deep)
        parts.append(found[0])
        sign = text[found[1]:found[1] + 1]
        place = found[1] + 1
    if sign != ")":
        raise NoText("parts stand with one blank between")
    return (tuple(parts), place)


def rule_at(text, place, deep):
    """Tell what stands as a rule, at most so deep, at the place of the text, and the place behind it."""
    figure = FIGURES.get(text[place:place + 1])
    if figure is None:
        raise NoText("a rule begins with a figure")
    if text[place + 1:place + 2] != "(":
        return (figure, place + 1)
    # Asked here, so that a long text is not walked deeper than any rule goes.
    if deep == 0:
        raise NoText("the rule is too deep")
    found = parts_at(text, place + 2, deep - 1)
    return ((figure, found[0]), found[1])


def read_rule(text):
    """Tell the rule that the text writes."""
    found = rule_at(text, 0, MOST_DEEP)
    if found[1] != len(text) or not is_rule(found[0]):
        raise NoText("the text writes no rule")
    return found[0]


def read_hall(text):
    """Tell the hall that the text writes."""
    halves = text.split(" / ")
    if len(halves) != 2:
        raise NoText("a hall is written as two rules")
    hall = (read_rule(halves[0]), read_rule(halves[1]))
    if not is_hall(hall):
        raise NoText("the two rules part")
    return hall


def read_number(text):
    """Tell the number that the text writes."""
    if not text.startswith("-"):
        return read_fence(text)
    if text == "-0":
        raise NoText("0 is written without a sign")
    return -read_fence(text[1:])


def read_fence(text):
    """Tell the fence that the text writes."""
    if not 1 <= len(text) <= MOST_FIGURES or not all([sign in FIGURES for sign in text]):
        raise NoText("a number is written by one to sixty figures")
    if text.startswith("0") and text != "0":
        raise NoText("no 0 stands ahead")
    return int(text)
