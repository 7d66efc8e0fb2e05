"""Moments at which something that changes evenly from the time 0 to the time 1 is zero."""

from everybowl.ratios import Ratio
from everybowl.turns import sign_of


def zero_moments(changes):
    """Return (time, what) for each change (what, before, after) that leads through 0, in ascending order of the times.

    What is 0 at equal times stays in the order of the changes.
    """
    moments = [
        (Ratio(before, before - after), what)
        for what, before, after in changes
        if sign_of(before) * sign_of(after) == -1
    ]
    times = [time for time, what in moments]
    return sorted(moments, key=lambda moment: earlier(times, moment[0]))


def earlier(times, moment):
    """Return how many of the times are before a moment."""
    return len([time for time in times if time.less(moment)])
