"""Rules of keepers, the masks that fill them, and papers that show it.

A rule is a keeper, or a tuple (k, parts): at least k of the parts.
"""

from oneslate.masks import has_keeper, is_whole, keepers_of, mask_of, masks_within

LAST_KEEPER = 5
MOST_PARTS = 6
MOST_NAMED = 12
MOST_DEEP = 4


def is_keeper(thing):
    """Tell whether the thing, anything, is a keeper."""
    return is_whole(thing) and 0 <= thing <= LAST_KEEPER


def is_pair(thing):
    """Tell whether the thing, anything, is a tuple of two."""
    return isinstance(thing, tuple) and len(thing) == 2


def is_choice(thing):
    """Tell whether the thing, anything, is a tuple (k, parts), whatever the parts are."""
    if not is_pair(thing) or not is_whole(thing[0]) or not isinstance(thing[1], tuple):
        return False
    many = len(thing[1])
    return many <= MOST_PARTS and 1 <= thing[0] <= many


def is_built(thing, deep):
    """Tell whether the thing, anything, is a rule at most so deep, however many keepers it names."""
    if is_keeper(thing):
        return True
    # The depth is asked ahead of the parts, so that a thing nested deeper is not walked to its end.
    if deep == 0 or not is_choice(thing):
        return False
    return all([is_built(part, deep - 1) for part in thing[1]])


def namings(rule):
    """Tell the keepers that the rule names, one named twice twice, in their order."""
    if is_whole(rule):
        return [rule]
    keepers = []
    for part in rule[1]:
        keepers.extend(namings(part))
    return keepers


def is_rule(thing):
    """Tell whether the thing, anything, is a rule."""
    return is_built(thing, MOST_DEEP) and len(namings(thing)) <= MOST_NAMED


def named(rule):
    """Tell the mask of the keepers that the rule names."""
    return mask_of(namings(rule))


def fills(rule, mask):
    """Tell whether the mask fills the rule."""
    if is_whole(rule):
        return has_keeper(mask, rule)
    return len([part for part in rule[1] if fills(part, mask)]) >= rule[0]


def pairs_due(rule, told):
    """Tell how many pairs a paper of (k, parts) has that shows yes (told True) or no (told False)."""
    if told:
        return rule[0]
    # So many unfilled parts leave fewer than k that could be filled.
    return len(rule[1]) - rule[0] + 1


def paper_of(rule, mask):
    """Tell the paper of the rule and the mask: a tree that shows whether the mask fills the rule."""
    if is_whole(rule):
        return rule
    told = fills(rule, mask)
    parts = rule[1]
    places = [place for place in range(len(parts)) if fills(parts[place], mask) == told]
    return tuple([(place, paper_of(parts[place], mask)) for place in places[:pairs_due(rule, told)]])


def places_rise(pairs, many):
    """Tell whether the pairs begin with rising places of so many parts."""
    last = -1
    for pair in pairs:
        if not is_whole(pair[0]) or not last < pair[0] < many:
            return False
        last = pair[0]
    return True


def is_paper_form(rule, told, tree):
    """Tell whether the tree, anything, has the pairs of a paper of (k, parts), whatever their papers are."""
    if not isinstance(tree, tuple) or len(tree) != pairs_due(rule, told):
        return False
    return all([is_pair(pair) for pair in tree]) and places_rise(tree, len(rule[1]))


def reads(rule, mask, told, tree):
    """Tell whether the tree, anything, reads as yes (told True) or as no (told False) for the rule and the mask."""
    if is_whole(rule):
        return is_whole(tree) and tree == rule and has_keeper(mask, rule) == told
    if not is_paper_form(rule, told, tree):
        return False
    return all([reads(rule[1][pair[0]], mask, told, pair[1]) for pair in tree])


def is_least(mask, filling):
    """Tell whether the mask, with any one keeper fewer, is none of the filling ones."""
    return not any([mask - mask_of([keeper]) in filling for keeper in keepers_of(mask)])


def least_masks(rule):
    """Tell the masks that fill the rule, but with any one keeper fewer do not, as a rising list."""
    # A keeper that the rule doesn't name could be left out, so no least mask has one.
    filling = [mask for mask in masks_within(named(rule)) if fills(rule, mask)]
    return [mask for mask in filling if is_least(mask, filling)]
