"""Quiet ending: one asker's letters brought to and from living keepers, while nothing else is brought."""

from oneslate.letters import goes_to_keeper
from oneslate.masks import has_keeper


def is_between(letter, asker, living):
    """Tell whether the letter goes from the asker to a living keeper, or from one to the asker."""
    if goes_to_keeper(letter):
        return letter[1] == asker and has_keeper(living, letter[2])
    return letter[2] == asker and has_keeper(living, letter[1])


def bring_between(house, asker, living, first, most):
    """Bring the letters between them from the first one on, at most so many (None: all); tell how many."""
    brought = 0
    k = first
    # The record grows meanwhile: what is written at a bringing is brought too.
    while k < house.many() and (most is None or brought < most):
        if is_between(house.letter(k), asker, living):
            house.bring(k)
            brought = brought + 1
        k = k + 1
    return brought


def attempt(house, asker, living, most):
    """Ring the asker's bell and bring at most so many (None: all) of its letters; tell how many were brought."""
    first = house.many()
    # Where no wish is under way the bell writes nothing, so there is nothing to bring.
    house.bell(asker)
    return bring_between(house, asker, living, first, most)


def settle(house, asker, living, bells):
    """Ring until the asker's wish ended, at most so many bells; tell how many, or None where it didn't end."""
    rung = 0
    while house.stand(asker) != "calm":
        if rung >= bells:
            return None
        attempt(house, asker, living, None)
        rung = rung + 1
    return rung
