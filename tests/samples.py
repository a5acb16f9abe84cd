"""Rules, halls and odd things that several tests draw from."""

from oneslate import errors

ALL_MASKS = range(64)

PLAIN_RULES = [
    0,
    5,
    (1, (3,)),
    (1, (0, 1)),
    (2, (0, 1)),
    (2, (0, 1, 2)),
    (3, (1, 3, 5)),
    (1, (0, 1, 2, 3, 4, 5)),
    (4, (0, 1, 2, 3, 4, 5)),
    (6, (0, 1, 2, 3, 4, 5)),
]

DOUBLED_RULES = [
    (1, (4, 4)),
    (2, (4, 4)),
    (2, (0, 0, 1)),
    (3, (0, 0, 1, 2)),
    (2, ((1, (0, 1)), (1, (0, 2)), 0)),
    (1, ((2, (0, 1)), 0)),
]

NESTED_RULES = [
    (2, (0, (1, (1, 2)), 3)),
    (2, ((2, (0, 1)), (1, (2, 3)), 5)),
    (1, ((2, (0, 1, 2)), (2, (3, 4, 5)))),
    (2, ((2, (0, 1, 2)), (2, (3, 4, 5)))),
    (3, ((1, (0, 5)), (1, (1, 4)), (2, (2, 3, 2)), 1)),
    (1, ((1, ((1, ((1, (2,)),)),)),)),
    (2, (5, (2, (4, (2, (3, (2, (2, 1)))), 0)), (1, (0, 2)))),
    (2, ((2, (0, 1, 2, 3)), (2, (2, 3, 4, 5)), (3, (0, 2, 4, 5)))),
]

# Somewhat beyond the bounds of promise 5: no rules, but nothing else is refused for it.
RULES_BEYOND = [
    (3, (0, 1, 2, 3, 4, 5, 0)),
    (2, ((3, (0, 1, 2, 3, 4, 5)), (4, (0, 1, 2, 3, 4, 5)), 3)),
    (1, ((1, ((1, ((1, ((2, (1, 4)),)),)),)),)),
]

RULES = PLAIN_RULES + DOUBLED_RULES + NESTED_RULES


def keepers_in(mask):
    """Tell the mask's keepers by division, not by the program's own way."""
    return [keeper for keeper in range(6) if mask // 2 ** keeper % 2 == 1]


def filled_by(rule, keepers):
    """Tell whether the keepers fill the rule, by the document's words."""
    if isinstance(rule, int):
        return rule in keepers
    return sum(filled_by(part, keepers) for part in rule[1]) >= rule[0]


def wrapped(thing, times, kind=tuple):
    """Tell the thing within so many tuples (or lists) of one."""
    for _ in range(times):
        thing = kind([thing])
    return thing


def chained(rule, times):
    """Tell the rule made so many times deeper, by choices with one part."""
    for _ in range(times):
        rule = (1, (rule,))
    return rule


# Nested at most eighteen deep, so that a test may put two tuples more around each.
ODD_THINGS = [
    None, True, False, "", "0", "(1, (0,))", "a\n\tb", "~" * 1000, -1, 6, 63, 64, 10 ** 99, -10 ** 99,
    (), [], (0,), [0], (1, 2, 3), ((),), [[]], (None, None), ("1", ("0",)), (0,) * 1000, [0] * 1000,
    wrapped(0, 18), wrapped(0, 18, list), wrapped((), 17), chained(0, 9), (((0, 0), 0), 0),
]

HALLS = [
    (0, 0),
    ((2, (0, 1, 2)), (2, (0, 1, 2))),
    ((3, (0, 1, 2, 3)), (2, (0, 1, 2, 3))),
    ((1, (0, 1, 2)), (3, (0, 1, 2))),
    ((3, (0, 1, 2)), (1, (0, 1, 2))),
    ((2, (0, 1)), (2, (0, 1, 5))),
    ((2, (1, 2, 4)), (2, (1, 2))),
    ((2, ((2, (0, 1, 2)), (2, (3, 4, 5)))), (1, ((2, (0, 1, 2)), (2, (3, 4, 5))))),
    ((2, (0, (1, (1, 2)), 3)), (3, (0, 1, 2, 3))),
    ((4, (0, 1, 2, 3, 4, 5)), (3, (0, 1, 2, 3, 4, 5))),
    ((2, (0, 0, 3)), (2, (0, (1, (3, 4))))),
]

PARTED = [
    (0, 1),
    ((1, (0, 1)), (1, (0, 1))),
    ((2, (0, 1, 2)), (1, (0, 1, 2))),
    ((2, (0, 1, 2, 3)), (2, (0, 1, 2, 3))),
    ((1, (0, 1)), (2, (0, 1, 5))),
    ((3, (0, 1, 2, 3, 4, 5)), (3, (0, 1, 2, 3, 4, 5))),
    ((2, (5, 4, 3)), (2, ((1, (3, 0)), (1, (4, 1)), (1, (5, 2))))),
    ((2, (0, 0, 1)), (1, (0, (2, (0, 3, 4))))),
]


def refused(test, kind, call, *args):
    """Check that the call is refused with that kind: a SlateError, a ValueError and none of the others."""
    try:
        call(*args)
    except errors.SlateError as error:
        test.assertIs(type(error), kind, args)
        test.assertIsInstance(error, ValueError)
        return
    test.fail(f"not refused: {args!r}")


# All signs that texts handed in have, and some of them for long texts.
SIGNS = [chr(code) for code in range(32, 127) if chr(code) != "%"] + ["\n", "\t"]
SHORT_SIGNS = list("0123456789()/- +\n\taA")


def bent(text, signs):
    """Tell the text with a sign put in, taken out or exchanged at any place."""
    found = []
    for at in range(len(text) + 1):
        found.extend(text[:at] + sign + text[at:] for sign in signs)
        if at < len(text):
            found.extend(text[:at] + sign + text[at + 1:] for sign in signs)
            found.append(text[:at] + text[at + 1:])
    return found
