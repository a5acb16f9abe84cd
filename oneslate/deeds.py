"""Deeds: what they are made of."""

from oneslate.halls import is_hall
from oneslate.masks import is_whole

SMALL_LETTERS = "abcdefghijklmnopqrstuvwxyz"
MOST_LETTERS = 8

FORMS = {
    "put": ("name", "number"),
    "add": ("name", "number"),
    "swap": ("name", "number", "number"),
    "take": ("fence",),
    "renew": ("fence",),
    "free": ("fence",),
    "sure": ("fence", "name", "number"),
    "move": ("hall",),
    "end": (),
}


def is_name(thing):
    """Tell whether the thing, anything, is a name."""
    if not isinstance(thing, str) or not 1 <= len(thing) <= MOST_LETTERS:
        return False
    return all([sign in SMALL_LETTERS for sign in thing])


def is_number(thing):
    """Tell whether the thing, anything, is a number of a deed."""
    return is_whole(thing) and abs(thing) < 10 ** 60


def is_fence(thing):
    """Tell whether the thing, anything, is a fence of a deed."""
    return is_number(thing) and thing >= 0


def form_of(word):
    """Tell the kinds of the parts behind a deed's word, or None where the text is no such word."""
    return FORMS.get(word)


def is_part(kind, thing):
    """Tell whether the thing, anything, is a part of that kind."""
    if kind == "name":
        return is_name(thing)
    if kind == "number":
        return is_number(thing)
    if kind == "fence":
        return is_fence(thing)
    return is_hall(thing)


def is_deed(thing):
    """Tell whether the thing, anything, is a deed."""
    if not isinstance(thing, tuple) or len(thing) == 0 or not isinstance(thing[0], str):
        return False
    form = form_of(thing[0])
    if form is None or len(thing) != len(form) + 1:
        return False
    return all([is_part(kind, part) for kind, part in zip(form, thing[1:])])
