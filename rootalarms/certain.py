"""What is certain: that which all explanations of a report have in common."""

from rootalarms.nets import check_component, heard_bits, is_below, nears, reaches
from rootalarms.reports import free_bits, is_explanation, limits, watched_bits
from rootalarms.sets import SETS


def certain(net, report):
    """Return for each component whether it is broken, whole or open; None without an explanation."""
    free, goals = limits(nears(net), report)
    if 0 in goals:
        return None
    words = []
    for component in range(len(report)):
        bit = 1 << component
        if not free & bit:
            words.append("whole")
        elif bit in goals:
            words.append("broken")
        else:
            words.append("open")
    return tuple(words)


def expected(net, report):
    """Return for each component whether it alarms, is quiet or open; None without an explanation."""
    near = nears(net)
    free, goals = limits(near, report)
    if 0 in goals:
        return None
    return tuple([expected_word(free, goals, bits) for bits in reaches(near)])


def witness(net, report, component):
    """Return what shows whether a component is broken, whole or open; None without an explanation."""
    near = nears(net)
    alarming, quiet = watched_bits(report, len(near))
    check_component(component, len(near))
    free = free_bits(near, quiet)
    if alarming & ~heard_bits(near, free):
        return None
    bit = 1 << component
    if not free & bit:
        return ("whole", SETS[quiet & heard_bits(near, bit)][0])
    # The alarms that the other candidates do not explain.
    alone = alarming & ~heard_bits(near, free & ~bit)
    if alone:
        return ("broken", SETS[alone][0])
    return ("open", SETS[free], SETS[free & ~bit])


def shows_witness(net, report, component, thing):
    """Tell whether any value shows whether a component is broken, whole or open."""
    near = nears(net)
    many = len(near)
    alarming, quiet = watched_bits(report, many)
    check_component(component, many)
    if not isinstance(thing, tuple):
        return False
    if len(thing) == 2 and is_below(thing[1], many):
        return thing[1] in shown_by(near, alarming, quiet, component, thing[0])
    if len(thing) == 3 and thing[0] == "open":
        for choice in thing[1:]:
            if not is_explanation(near, alarming, quiet, choice):
                return False
        return component in thing[1] and component not in thing[2]
    return False


def shown_by(near, alarming, quiet, component, word):
    """Return the set of the watched components that show with any word what a component is."""
    free = free_bits(near, quiet)
    if alarming & ~heard_bits(near, free):
        return ()
    bit = 1 << component
    if word == "broken":
        return SETS[alarming & ~heard_bits(near, free & ~bit)]
    if word == "whole":
        return SETS[quiet & heard_bits(near, bit)]
    return ()


def expected_word(free, goals, bits):
    """Return the word in expected of a component whose reach has these bits, for a report with an explanation."""
    if not free & bits:
        return "quiet"
    # It can be quiet exactly if the candidates beyond its reach explain all alarms.
    for goal in goals:
        if not goal & ~bits:
            return "alarm"
    return "open"
