"""Halls: an asking and a keeping rule that always meet, and the keepers with which they work."""

from oneslate.errors import NoHall, NoRule
from oneslate.masks import keepers_of, mask_of, masks_within
from oneslate.rules import fills, is_pair, is_rule, least_masks, named


def first_apart(mask, others):
    """Tell the first of the other masks that has no keeper in common with the mask, or None."""
    for other in others:
        if mask & other == 0:
            return other
    return None


def parting(asking, keeping):
    """Tell the least two least masks without a keeper in common, or None where the rules don't part."""
    others = least_masks(keeping)
    for mask in least_masks(asking):
        other = first_apart(mask, others)
        if other is not None:
            return (mask, other)
    return None


def make_hall(asking, keeping):
    """Tell the hall of the two rules; refuse what is no rule, and two rules that part."""
    if not is_rule(asking) or not is_rule(keeping):
        raise NoRule("a hall has two rules")
    if parting(asking, keeping) is not None:
        raise NoHall("the two rules part")
    return (asking, keeping)


def is_hall(thing):
    """Tell whether the thing, anything, is a hall."""
    if not is_pair(thing) or not is_rule(thing[0]) or not is_rule(thing[1]):
        return False
    return parting(thing[0], thing[1]) is None


def members_mask(hall):
    """Tell the mask of the hall's members."""
    return named(hall[0]) | named(hall[1])


def members_of(hall):
    """Tell the keepers that either rule of the hall names, as a rising list."""
    return keepers_of(members_mask(hall))


def works(hall, living):
    """Tell whether the mask of living keepers fills both rules of the hall."""
    return fills(hall[0], living) and fills(hall[1], living)


def is_stopper(hall, missing):
    """Tell whether the hall doesn't work without the missing members, but does with any one of them."""
    rest = members_mask(hall) - missing
    if works(hall, rest):
        return False
    return all([works(hall, rest + mask_of([keeper])) for keeper in keepers_of(missing)])


def stoppers(hall):
    """Tell the hall's stoppers, as a rising list of masks."""
    return [mask for mask in masks_within(members_mask(hall)) if is_stopper(hall, mask)]
