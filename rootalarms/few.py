"""Few broken ones: the smallest explanations, and alarms that share no candidate."""

from rootalarms.nets import nears
from rootalarms.reports import all_explanations, limits, watched_bits
from rootalarms.sets import SETS


def fewest(net, report):
    """Return the first one of the smallest explanations, or None if there is none."""
    return smallest(nears(net), report)


def apart(net, report):
    """Return the first one of the largest sets of alarming components that share no candidate in reach."""
    near = nears(net)
    free, goals = limits(near, report)
    if 0 in goals:
        return None
    alarming, _ = watched_bits(report, len(near))
    # Each set, in ascending order, with the bits of the candidates in its reach.
    found = [((), 0)]
    for alarm, goal in list(zip(SETS[alarming], goals))[::-1]:
        longer = [((alarm,) + chosen, bits | goal) for chosen, bits in found if not bits & goal]
        # Only the empty set comes ahead of the sets that begin with this alarm.
        found = found[:1] + longer + found[1:]
    return max([pair[0] for pair in found], key=len)


# The rest is for the other files, too.


def smallest(near, report):
    """Return the first one of the smallest explanations, or None if there is none."""
    free, goals = limits(near, report)
    return min([SETS[bits] for bits in all_explanations(free, goals)], key=len, default=None)
