"""Ways to drive houses and lodgings, in order or by chance with a fixed seed."""

from samples import HALLS

NAMES = ["a", "b", "ab"]


def bring_all(house, first=0):
    """Bring each letter from the first one on once, in the order written, those too that are written meanwhile."""
    k = first
    while k < house.many():
        house.bring(k)
        k += 1


def run_wish(house, asker, deed=None):
    """Begin a wish, bring its letters, ring until it ended, and tell its outcome."""
    first = house.many()
    house.begin(asker, deed)
    bring_all(house, first)
    while house.stand(asker) != "calm":
        first = house.many()
        house.bell(asker)
        bring_all(house, first)
    return house.outcome(asker)


def drawn_deed(drawn, ends):
    """Draw a deed; moves now and then, an end only where ends are let by."""
    name = drawn.choice(NAMES)
    rows = [
        ("add", name, drawn.randrange(-3, 9)), ("put", name, drawn.randrange(-2, 3)), ("take", drawn.randrange(4)),
        ("swap", name, drawn.randrange(3), drawn.randrange(3)), ("renew", drawn.randrange(4)),
        ("free", drawn.randrange(4)), ("sure", drawn.randrange(4), name, drawn.randrange(5)), None, None,
        ("add", name, 1), ("move", drawn.choice(HALLS)),
    ]
    if ends and drawn.random() < 0.05:
        return ("end",)
    return drawn.choice(rows)


def drive(house, drawn, askers, turns, ends=True):
    """Drive a house by wishes, bells and bringings: late, twice, in any order or never."""
    fresh = []
    for _ in range(turns):
        asker = drawn.randrange(askers)
        step = drawn.random()
        if step < 0.3 and house.stand(asker) == "calm" and not house.knows_over(asker):
            fresh.extend(house.begin(asker, drawn_deed(drawn, ends)))
        elif step > 0.98 or not fresh:
            fresh.extend(house.bell(asker))
        elif step > 0.95:
            fresh.extend(house.bring(drawn.randrange(house.many())))
        else:
            bring_fresh(house, drawn, fresh)


def bring_fresh(house, drawn, fresh):
    """Bring one of the letters that were not brought so far, mostly one of the oldest, or lose it."""
    k = fresh.pop(drawn.randrange(min(len(fresh), drawn.choice([1, 4, 4, 99]))))
    if drawn.random() < 0.97:
        fresh.extend(house.bring(k))
