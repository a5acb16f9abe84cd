"""Sums told of a line."""

from oneslate.audit import does
from oneslate.lines import last_slate
from oneslate.slates import cell_of


def sum_of(links, name):
    """Tell the number that the name has behind the line's last link."""
    return cell_of(last_slate(links), name)


def done_in(links):
    """Tell the deeds that links of the line do, as a list of pairs (asker, number)."""
    deeds = [does(links, place) for place in range(len(links))]
    return [deed for deed in deeds if deed is not None]


def doers(links):
    """Tell who did how much: a list of pairs (asker, so many deeds), by rising askers."""
    counts = {}
    for deed in done_in(links):
        counts[deed[0]] = counts.get(deed[0], 0) + 1
    return [(asker, counts[asker]) for asker in sorted(counts)]
