"""The refusals, one class for each."""


class SlateError(ValueError):
    """Any refusal."""


class NoRule(SlateError):
    """What stands in the place of a rule is none."""


class NoHall(SlateError):
    """What stands in the place of a hall is none, or its two rules part."""


class NoDeed(SlateError):
    """What stands in the place of a deed is neither a deed nor None."""


class Over(SlateError):
    """The asker knows that the slate is over."""


class Busy(SlateError):
    """A wish of the asker is under way."""


class NoAsker(SlateError):
    """What stands in the place of an asker, or of a number of askers, is none."""


class NoLetter(SlateError):
    """What stands in the place of a letter's number is none."""


class NoTick(SlateError):
    """What stands in the place of a turn's ticks is none."""


class NoWish(SlateError):
    """The deed is begun by the tenant's wish alone."""


class NoText(SlateError):
    """The text writes nothing of the kind that is read."""


class NoRow(SlateError):
    """The text is no row of the desk."""
