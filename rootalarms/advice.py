"""Advice: what to watch next, and which watched components say nothing new."""

from rootalarms.nets import check_component, checked_bits, heard_bits, nears, reached_bits
from rootalarms.reports import all_explanations, limits
from rootalarms.sets import SETS


def halves(net, report, component):
    """Return with how many explanations the component alarms, and with how many it is quiet."""
    near = nears(net)
    free, goals = limits(near, report)
    check_component(component, len(near))
    return parted(all_explanations(free, goals), reached_bits(near, 1 << component))


def next_watch(net, report):
    """Return the least unseen component that halves the explanations best, or None if none parts them."""
    near = nears(net)
    free, goals = limits(near, report)
    found = all_explanations(free, goals)
    best = None
    least = len(found)
    for component, word in enumerate(report):
        if word == "unseen":
            greater = max(parted(found, reached_bits(near, 1 << component)))
            # One that does the same with all explanations, and so is not open, leaves all of them.
            if greater < least:
                best = component
                least = greater
    return best


def needless(net, report):
    """Return the set of the watched components that say nothing new, or None without an explanation."""
    near = nears(net)
    free, goals = limits(near, report)
    if 0 in goals:
        return None
    said = statements(near, report, free)
    return tuple([component for component in said if others_saying(said, component)])


def core(net, report):
    """Return the report with the fewest watched components that has the same explanations, or None without any."""
    near = nears(net)
    free, goals = limits(near, report)
    if 0 in goals:
        return None
    said = statements(near, report, free)
    kept = [component for component in said if is_first(said, component)]
    return tuple([word if component in kept else "unseen" for component, word in enumerate(report)])


def groups(net, watched):
    """Return the sets of the components with which, each broken alone, the same ones of the watched alarm."""
    near = nears(net)
    seen = checked_bits(watched, len(near))
    found = {}
    for component in range(len(near)):
        found.setdefault(heard_bits(near, 1 << component) & seen, []).append(component)
    return tuple([tuple(members) for members in found.values()])


def parted(found, reached):
    """Return how many sets of a list, as bits, have something of the reach of a component, and how many nothing."""
    alarm = len([bits for bits in found if bits & reached])
    return alarm, len(found) - alarm


def statements(near, report, free):
    """Return for each watched component its word and the bits that tell what it says.

    An alarming one says that something of these bits is broken, a quiet one
    that nothing beyond these bits is. So either says all that another one with
    this word says exactly if all its bits are bits of the other one.
    """
    said = {}
    for component, word in enumerate(report):
        reached = reached_bits(near, 1 << component)
        if word == "alarm":
            said[component] = (word, reached & free)
        elif word == "quiet":
            said[component] = (word, ~reached)
    return said


def others_saying(said, component):
    """Return a list of the other watched components, each of which says all that this one says."""
    word, bits = said[component]
    return [other for other in said if other != component and said[other][0] == word and not said[other][1] & ~bits]


def is_first(said, component):
    """Tell whether a watched component is the least one of those that say just this, and no other one says more."""
    # Two that say all of one another say the same.
    return not [
        other for other in others_saying(said, component)
        if other < component or component not in others_saying(said, other)
    ]
