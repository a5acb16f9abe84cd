"""The line of a record: the chosen tellings, from the first one on, over all epochs."""

from oneslate.slates import blank, is_shut, shut_of
from oneslate.tellings import chosen_in, tellings


def by_place(links):
    """Tell a dict with each link by its epoch and stamp."""
    found = {}
    for link in links:
        found[(link[0], link[1])] = link
    return found


def way_to(links, epoch, stamp):
    """Tell the links from the epoch's first one to that of the stamp, parent by parent."""
    found = by_place(links)
    way = []
    while (epoch, stamp) in found:
        link = found[(epoch, stamp)]
        way.append(link)
        stamp = link[2]
    way.reverse()
    return way


def cut_off(links):
    """Tell the links up to and with the first one whose slate is shut, or all."""
    kept = []
    for link in links:
        kept.append(link)
        if is_shut(link[5]):
            break
    return kept


def way_in(letters, epoch, hall):
    """Tell the way of the epoch's highest chosen telling, cut off; no links where none is chosen."""
    links = [link for link in tellings(letters) if link[0] == epoch]
    stamps = [link[1] for link in links]
    # A kept whose tell isn't in the record makes no telling.
    chosen = [stamp for stamp in chosen_in(letters, epoch, hall) if stamp in stamps]
    if len(chosen) == 0:
        return []
    return cut_off(way_to(links, epoch, chosen[-1]))


def line_of(letters, hall):
    """Tell the record's line, as a list of links."""
    line = []
    epoch = 0
    way = way_in(letters, epoch, hall)
    while len(way) > 0:
        line.extend(way)
        shut = shut_of(way[-1][5])
        if shut is None or shut == "over":
            break
        epoch = epoch + 1
        way = way_in(letters, epoch, shut)
    return line


def last_slate(links):
    """Tell the slate of the last link, the blank one where there is none."""
    if len(links) == 0:
        return blank()
    return links[-1][5]
