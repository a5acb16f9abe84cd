"""Clocks that go on by slow to fast ticks a turn."""


def wait_for(span, slow, fast):
    """Tell the least whole number of ticks w with w * slow >= span * fast."""
    return (span * fast + slow - 1) // slow
