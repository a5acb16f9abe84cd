"""Slates: tuples (cells, doings, lease, shut) that are never changed, only made anew."""


def blank():
    """Tell the blank slate."""
    return ((), (), (0, None), None)


def lease_of(slate):
    """Tell the slate's lease, a pair (fence, tenant)."""
    return slate[2]


def shut_of(slate):
    """Tell None, or the hall in which the slate goes on, or "over"."""
    return slate[3]


def is_shut(slate):
    """Tell whether the slate is shut, with a hall or for good."""
    return shut_of(slate) is not None


def cell_of(slate, name):
    """Tell the number that the name has, 0 where it isn't there."""
    for cell in slate[0]:
        if cell[0] == name:
            return cell[1]
    return 0


def with_cell(slate, name, n):
    """Tell the slate in which the name has the number."""
    cells = [cell for cell in slate[0] if cell[0] != name]
    if n != 0:
        cells.append((name, n))
    return (tuple(sorted(cells, key=lambda cell: cell[0])), slate[1], slate[2], slate[3])


def doing_of(slate, asker):
    """Tell the asker's last doing, a triple (asker, number, answer), or (asker, 0, None)."""
    for doing in slate[1]:
        if doing[0] == asker:
            return doing
    return (asker, 0, None)


def with_doing(slate, asker, number, answer):
    """Tell the slate in which the asker's last doing is the one told."""
    doings = [doing for doing in slate[1] if doing[0] != asker]
    doings.append((asker, number, answer))
    # By the asker alone: answers are of several kinds, which don't compare.
    return (slate[0], tuple(sorted(doings, key=lambda doing: doing[0])), slate[2], slate[3])


def with_lease(slate, fence, tenant):
    """Tell the slate with that lease."""
    return (slate[0], slate[1], (fence, tenant), slate[3])


def with_shut(slate, shut):
    """Tell the slate with that shut: None, a hall or "over"."""
    return (slate[0], slate[1], slate[2], shut)


def opened(slate):
    """Tell the slate as it goes on, no longer shut."""
    return with_shut(slate, None)
