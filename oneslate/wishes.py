"""Wishes, written and read."""

from oneslate.deeds import form_of, is_name
from oneslate.errors import NoText
from oneslate.texts import read_fence, read_hall, read_number, show_hall


def show_part(kind, part):
    """Tell the text that writes a deed's part of that kind."""
    if kind == "hall":
        return show_hall(part)
    return str(part)


def show_wish(deed):
    """Tell the text that writes the wish, a deed or None."""
    if deed is None:
        return "glance"
    texts = [show_part(kind, part) for kind, part in zip(form_of(deed[0]), deed[1:])]
    return " ".join([deed[0]] + texts)


def read_name(text):
    """Tell the name that the text writes."""
    if not is_name(text):
        raise NoText("a name has one to eight small letters")
    return text


def read_part(kind, text):
    """Tell the deed's part of that kind that the text writes."""
    if kind == "name":
        return read_name(text)
    if kind == "number":
        return read_number(text)
    if kind == "fence":
        return read_fence(text)
    return read_hall(text)


def pieces_of(form, rest):
    """Tell the texts of so many parts, a hall's with the blanks within it."""
    if form == ("hall",):
        return [rest]
    return rest.split(" ")


def read_wish(text):
    """Tell the deed, or None for a glance, that the text writes."""
    if text == "glance":
        return None
    found = text.partition(" ")
    word = found[0]
    form = form_of(word)
    if form is None:
        raise NoText("no wish begins so")
    # The text behind a blank has parts, if only one without signs.
    pieces = pieces_of(form, found[2]) if found[1] == " " else []
    if len(pieces) != len(form):
        raise NoText("a wish has just its parts, with one blank between")
    return tuple([word] + [read_part(kind, piece) for kind, piece in zip(form, pieces)])
