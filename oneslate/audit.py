"""The audit of a line and a history: the first fault found, or None."""

from oneslate.doing import done_on
from oneslate.lines import last_slate
from oneslate.slates import blank, doing_of, opened


def slate_ahead(links, place):
    """Tell the slate ahead of the link at the place."""
    if place == 0:
        return blank()
    slate = links[place - 1][5]
    if links[place - 1][0] != links[place][0]:
        return opened(slate)
    return slate


def has_doing(slate, asker, number):
    """Tell whether the asker's doing in the slate is the one of that number."""
    return any([doing[0] == asker and doing[1] == number for doing in slate[1]])


def does(links, place):
    """Tell the pair (asker, number) of the deed that the link at the place does, or None."""
    link = links[place]
    asker = link[1][1]
    if has_doing(link[5], asker, link[3]) and not has_doing(slate_ahead(links, place), asker, link[3]):
        return (asker, link[3])
    return None


def begun_deeds(history):
    """Tell a dict of the (asker, number, deed) of all begins."""
    begun = {}
    for row in history:
        if row[0] == "begin":
            begun[row[1:4]] = True
    return begun


def fault_of_links(links, history):
    """Tell the first link that nobody began or that is not what its deed gives, or None."""
    begun = begun_deeds(history)
    for place, link in enumerate(links):
        asker = link[1][1]
        if (asker, link[3], link[4]) not in begun:
            return ("unbegun", place)
        if link[5] != done_on(slate_ahead(links, place), asker, link[3], link[4]):
            return ("wrong", place)
    return None


def doers_by_deed(links):
    """Tell a dict with the place of the link that does a deed, by its (asker, number)."""
    places = {}
    for place in range(len(links)):
        deed = does(links, place)
        if deed is not None:
            places[deed] = place
    return places


def place_of_stamp(links, epoch, stamp):
    """Tell the place of the link of that epoch and stamp, or None."""
    for place, link in enumerate(links):
        if link[0] == epoch and link[1] == stamp:
            return place
    return None


def place_seen(links, seen):
    """Tell the place of the link behind which a glance stands, -1 at the line's beginning, None where there is none."""
    if seen[1] is None:
        return len(links) - 1 if len(links) > 0 else None
    if seen[1] == (0, 0):
        return len([link for link in links if link[0] < seen[0]]) - 1
    return place_of_stamp(links, seen[0], seen[1])


def fault_of_glance(links, seen):
    """Tell "lost" or "lie" for what a glance was told, or None."""
    place = place_seen(links, seen)
    if place is None:
        return "lost"
    slate = last_slate(links[:place + 1])
    if seen[1] == (0, 0):
        slate = opened(slate)
    return None if slate == seen[2] else "lie"


def fault_of_end(links, doers, row):
    """Tell "lost" or "lie" for an end, or None."""
    outcome = row[3]
    if outcome[0] == "saw":
        return fault_of_glance(links, outcome[1])
    place = doers.get((row[1], row[2]))
    if outcome[0] == "over":
        return None if place is None else "lie"
    if place is None:
        return "lost"
    return None if doing_of(links[place][5], row[1])[2] == outcome[1] else "lie"


def fault_of_ends(links, doers, history):
    """Tell the first end that is lost or a lie, or None."""
    for place, row in enumerate(history):
        if row[0] == "end":
            word = fault_of_end(links, doers, row)
            if word is not None:
                return (word, place)
    return None


def stands_at(links, doers, row):
    """Tell the place of the link at which an ended wish stands, or None where it was told over."""
    if row[3][0] == "saw":
        return place_seen(links, row[3][1])
    return doers.get((row[1], row[2]))


def glances_by_wish(links, history):
    """Tell a dict with the place behind which an ended glance stands, by its (asker, number)."""
    places = {}
    for row in history:
        if row[0] == "end" and row[3][0] == "saw":
            places[(row[1], row[2])] = place_seen(links, row[3][1])
    return places


def earliest_of(doers, glances, row):
    """Tell the place behind which a wish that begins stands, or None where it is never too early."""
    wish = (row[1], row[2])
    if row[3] is None:
        return glances.get(wish)
    # A deed stands behind the link before the one that does it: it may not be where the ended wish stands.
    return doers[wish] - 1 if wish in doers else None


def marks_behind(links, doers, history):
    """Tell for each place of the history the least place behind which a wish stands that begins later."""
    glances = glances_by_wish(links, history)
    least = len(links)
    marks = []
    for row in reversed(history):
        marks.append(least)
        early = earliest_of(doers, glances, row) if row[0] == "begin" else None
        if early is not None:
            least = min(least, early)
    marks.reverse()
    return marks


def fault_of_order(links, doers, history):
    """Tell the first end for which a wish that begins later stands too early, or None."""
    marks = marks_behind(links, doers, history)
    for place, row in enumerate(history):
        stood = stands_at(links, doers, row) if row[0] == "end" else None
        if stood is not None and marks[place] < stood:
            return ("late", place)
    return None


def audit(links, history):
    """Tell the first fault of a line and a history as a pair (word, place), or None."""
    fault = fault_of_links(links, history)
    if fault is not None:
        return fault
    doers = doers_by_deed(links)
    fault = fault_of_ends(links, doers, history)
    if fault is not None:
        return fault
    return fault_of_order(links, doers, history)
