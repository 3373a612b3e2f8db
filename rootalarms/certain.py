"""What is certain: that which all explanations of a report have in common."""

from rootalarms.nets import check_component, is_component, is_within, reaches
from rootalarms.reports import all_candidates, check_report, clearers, is_explanation
from rootalarms.reports import suspects, those_with, unexplained


def certain(net, report):
    """Return for each component whether it is broken, whole or open; None without an explanation."""
    check_report(net, report)
    far = reaches(net)
    if unexplained(far, report):
        return None
    return tuple([state_of(far, report, component) for component in range(len(net))])


def expected(net, report):
    """Return for each component whether it alarms, is quiet or open; None without an explanation."""
    check_report(net, report)
    far = reaches(net)
    if unexplained(far, report):
        return None
    return tuple([expected_of(far, report, component) for component in range(len(net))])


def witness(net, report, component):
    """Return what shows whether a component is broken, whole or open; None without an explanation."""
    check_report(net, report)
    check_component(net, component)
    far = reaches(net)
    if unexplained(far, report):
        return None
    state = state_of(far, report, component)
    if state == "broken":
        return (state, accusers(far, report, component)[0])
    if state == "whole":
        return (state, clearers(far, report, component)[0])
    one = all_candidates(far, report)
    return (state, one, tuple([part for part in one if part != component]))


def shows_witness(net, report, component, thing):
    """Tell whether any value shows whether a component is broken, whole or open."""
    check_report(net, report)
    check_component(net, component)
    far = reaches(net)
    if not isinstance(thing, tuple) or unexplained(far, report):
        return False
    if len(thing) == 2 and is_component(net, thing[1]):
        if thing[0] == "broken":
            return thing[1] in accusers(far, report, component)
        return thing[0] == "whole" and thing[1] in clearers(far, report, component)
    if len(thing) == 3 and thing[0] == "open":
        return is_choice(net, report, component, thing[1], thing[2])
    return False


def is_choice(net, report, component, one, other):
    """Tell whether any two values are an explanation with the component and one without it."""
    if not is_explanation(net, report, one) or not is_explanation(net, report, other):
        return False
    return component in one and component not in other


def accusers(far, report, component):
    """Return the set of the alarming components whose only candidate in reach is the component."""
    return tuple([alarm for alarm in those_with(report, "alarm") if suspects(far, report, alarm) == (component,)])


def state_of(far, report, component):
    """Return the word of a component in certain, for a report with an explanation."""
    if clearers(far, report, component):
        return "whole"
    if accusers(far, report, component):
        return "broken"
    return "open"


def expected_of(far, report, component):
    """Return the word of a component in expected, for a report with an explanation."""
    own = suspects(far, report, component)
    if not own:
        return "quiet"
    # It can be quiet exactly if the candidates beyond its reach explain all alarms.
    for alarm in those_with(report, "alarm"):
        if is_within(suspects(far, report, alarm), own):
            return "alarm"
    return "open"
