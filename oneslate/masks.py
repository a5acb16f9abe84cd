"""Whole numbers, and sets of keepers told as masks."""


def is_whole(thing):
    """Tell whether the thing is a whole number: an int that is no truth."""
    return isinstance(thing, int) and not isinstance(thing, bool)


def has_keeper(mask, keeper):
    """Tell whether the keeper is one of the mask's."""
    return (mask >> keeper) & 1 == 1


def mask_of(keepers):
    """Tell the mask of a list of keepers."""
    mask = 0
    for keeper in keepers:
        # Not a sum: a keeper that is there twice counts once.
        mask = mask | (1 << keeper)
    return mask


def keepers_of(mask):
    """Tell the mask's keepers, as a rising list."""
    return [keeper for keeper in range(mask.bit_length()) if has_keeper(mask, keeper)]


def masks_within(mask):
    """Tell the masks of all sets of the mask's keepers, as a rising list."""
    masks = [0]
    # Each keeper's own mask is above all masks of the keepers before it, so the list rises by itself.
    for keeper in keepers_of(mask):
        masks = masks + [below + mask_of([keeper]) for below in masks]
    return masks
