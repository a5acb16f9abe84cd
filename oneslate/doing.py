"""Deeds done on slates, each once."""

from oneslate.slates import cell_of, doing_of, is_shut, lease_of, with_cell, with_doing, with_lease, with_shut


def do_put(slate, asker, deed):
    """The cell has the number then; the answer is the one that it had."""
    return (with_cell(slate, deed[1], deed[2]), cell_of(slate, deed[1]))


def do_add(slate, asker, deed):
    """The number is added to the cell; the answer is the sum."""
    total = cell_of(slate, deed[1]) + deed[2]
    return (with_cell(slate, deed[1], total), total)


def do_swap(slate, asker, deed):
    """The cell has the new number then, where it had the old one."""
    if cell_of(slate, deed[1]) != deed[2]:
        return (slate, 0)
    return (with_cell(slate, deed[1], deed[3]), 1)


def lent(slate, fence, tenant):
    """Tell the slate with the next fence's lease, and the answer that tells it."""
    return (with_lease(slate, fence + 1, tenant), (1, fence + 1, tenant))


def not_lent(slate):
    """Tell the slate as it is, and the answer that tells its lease."""
    lease = lease_of(slate)
    return (slate, (0, lease[0], lease[1]))


def do_take(slate, asker, deed):
    """The lease is the asker's then, where its fence is the one told."""
    if lease_of(slate)[0] != deed[1]:
        return not_lent(slate)
    return lent(slate, deed[1], asker)


def do_renew(slate, asker, deed):
    """The lease is the asker's anew, where it is the asker's with that fence."""
    if lease_of(slate) != (deed[1], asker):
        return not_lent(slate)
    return lent(slate, deed[1], asker)


def do_free(slate, asker, deed):
    """The lease is nobody's then, where it is the asker's with that fence."""
    if lease_of(slate) != (deed[1], asker):
        return not_lent(slate)
    return lent(slate, deed[1], None)


def do_sure(slate, asker, deed):
    """The cell has the number then, where the lease is the asker's with that fence."""
    if lease_of(slate) != (deed[1], asker):
        return (slate, 0)
    return (with_cell(slate, deed[2], deed[3]), 1)


def do_move(slate, asker, deed):
    """The slate goes on in the hall."""
    return (with_shut(slate, deed[1]), 1)


def do_end(slate, asker, deed):
    """The slate is over."""
    return (with_shut(slate, "over"), 1)


DOERS = {
    "put": do_put,
    "add": do_add,
    "swap": do_swap,
    "take": do_take,
    "renew": do_renew,
    "free": do_free,
    "sure": do_sure,
    "move": do_move,
    "end": do_end,
}


def outcome_of(slate, asker, deed):
    """Tell the slate behind the asker's deed, its doings as they were, and the answer."""
    doer = DOERS[deed[0]]
    return doer(slate, asker, deed)


def done_on(slate, asker, number, deed):
    """Tell the slate on which the asker's wish of that number is done; once done, it is not done again."""
    if deed is None or is_shut(slate) or doing_of(slate, asker)[1] >= number:
        return slate
    made = outcome_of(slate, asker, deed)
    return with_doing(made[0], asker, number, made[1])


def along(slate, rows):
    """Tell the slate behind each of the rows (asker, number, deed or None), as a list."""
    slates = []
    for row in rows:
        slate = done_on(slate, row[0], row[1], row[2])
        slates.append(slate)
    return slates
