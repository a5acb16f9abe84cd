"""What a record alone tells of tellings: links (epoch, stamp, parent, number, deed, slate), and who kept them."""

from oneslate.masks import mask_of
from oneslate.rules import fills


def link_of(letter):
    """Tell the link of a tell."""
    return (letter[3], letter[4]) + letter[5]


def tellings(letters):
    """Tell the links of the tells written, each once, sorted by epochs, then stamps."""
    links = {}
    for letter in letters:
        if letter[0] == "tell":
            links[(letter[3], letter[4])] = link_of(letter)
    return [links[place] for place in sorted(links)]


def kept_by(letters):
    """Tell triples (epoch, stamp, mask) of the keepers by whom a kept was written, sorted likewise."""
    masks = {}
    for letter in letters:
        if letter[0] == "kept":
            place = (letter[3], letter[4])
            masks[place] = masks.get(place, 0) | mask_of([letter[1]])
    return [(place[0], place[1], masks[place]) for place in sorted(masks)]


def chosen_in(letters, epoch, hall):
    """Tell the stamps in the epoch whose keepers fill the hall's keeping rule, as a rising list."""
    rows = [row for row in kept_by(letters) if row[0] == epoch]
    return [row[1] for row in rows if fills(hall[1], row[2])]
