"""What an asker makes of the grants it got: triples (keeper, kept, slate)."""

from oneslate.masks import mask_of


def highest(grants, opening):
    """Tell the granted pair (kept, slate) whose stamp is highest, with the opening slate where none was kept."""
    grant = max(grants, key=lambda one: one[1])
    if grant[1] == (0, 0):
        return (grant[1], opening)
    return (grant[1], grant[2])


def all_alike(grants):
    """Tell whether all grants have one stamp."""
    return all([grant[1] == grants[0][1] for grant in grants])


def granters(grants):
    """Tell the mask of the keepers that granted."""
    return mask_of([grant[0] for grant in grants])
