"""Reports: which sets of broken components explain what is seen.

In this file and those that build on it, `far` is the tuple of the reaches
of all components of a net: most questions need it several times.
"""

from rootalarms.errors import ReportError
from rootalarms.nets import check_net, check_set, is_component, is_set_of, meets, reaches

WORDS = ("alarm", "quiet", "unseen")


def report_of(net, broken, watched):
    """Return what the components of a set watched do if those of a set are broken."""
    check_net(net)
    check_set(net, broken)
    check_set(net, watched)
    return told(reaches(net), broken, watched)


def candidates(net, report):
    """Return the set of the components that are in the reach of no quiet one."""
    check_report(net, report)
    return all_candidates(reaches(net), report)


def verdict(net, report):
    """Return the greatest explanation, or what shows that there is none."""
    check_report(net, report)
    far = reaches(net)
    wrong = unexplained(far, report)
    if not wrong:
        return ("broken", all_candidates(far, report))
    alarm = wrong[0]
    return ("none", alarm, tuple([clearers(far, report, part)[0] for part in far[alarm]]))


def shows_verdict(net, report, thing):
    """Tell whether any value shows that there is an explanation, or that there is none."""
    check_report(net, report)
    if not isinstance(thing, tuple):
        return False
    if len(thing) == 2 and thing[0] == "broken":
        return is_explanation(net, report, thing[1])
    if len(thing) == 3 and thing[0] == "none":
        return is_refutation(net, report, thing[1], thing[2])
    return False


def explanations(net, report):
    """Yield all explanations, ascending."""
    check_report(net, report)
    for broken in all_explanations(reaches(net), report):
        yield broken


def how_many(net, report):
    """Return the number of explanations."""
    check_report(net, report)
    return len(all_explanations(reaches(net), report))


# The rest is for the other files, too; but for check_report and the two
# functions for any value, it takes arguments that are as they should be.


def check_report(net, report):
    """Raise NetError if this is no net, ReportError if this is no report of it."""
    check_net(net)
    if not is_report_of(net, report):
        raise ReportError("not a report of the net")


def is_report_of(net, thing):
    """Tell whether any value is a report of the net."""
    if not isinstance(thing, tuple) or len(thing) != len(net):
        return False
    return all([isinstance(word, str) and word in WORDS for word in thing])


def is_explanation(net, report, thing):
    """Tell whether any value is an explanation of the report."""
    if not is_set_of(net, thing):
        return False
    watched = [component for component, word in enumerate(report) if word != "unseen"]
    return told(reaches(net), thing, watched) == report


def is_refutation(net, report, alarm, quiets):
    """Tell whether any two values are an alarming component and quiet ones that clear its reach."""
    if not is_component(net, alarm) or report[alarm] != "alarm":
        return False
    far = reaches(net)
    if not isinstance(quiets, tuple) or len(quiets) != len(far[alarm]):
        return False
    for part, quiet in zip(far[alarm], quiets):
        if not is_component(net, quiet) or quiet not in clearers(far, report, part):
            return False
    return True


def told(far, broken, watched):
    """Return the report of the watched components if just the broken ones are broken."""
    return tuple([told_by(far, broken, watched, component) for component in range(len(far))])


def told_by(far, broken, watched, component):
    """Return the word of one component in this report."""
    if component not in watched:
        return "unseen"
    if meets(far[component], broken):
        return "alarm"
    return "quiet"


def those_with(report, word):
    """Return the set of the components with this word."""
    return tuple([component for component, found in enumerate(report) if found == word])


def clearers(far, report, component):
    """Return the set of the quiet components in whose reach a component is."""
    return tuple([quiet for quiet in those_with(report, "quiet") if component in far[quiet]])


def suspects(far, report, component):
    """Return the set of the candidates in the reach of a component."""
    return tuple([part for part in far[component] if not clearers(far, report, part)])


def all_candidates(far, report):
    """Return the set of all candidates."""
    return tuple([component for component in range(len(far)) if not clearers(far, report, component)])


def unexplained(far, report):
    """Return the set of the alarming components without a candidate in their reach."""
    return tuple([alarm for alarm in those_with(report, "alarm") if not suspects(far, report, alarm)])


def all_explanations(far, report):
    """Return a list of all explanations, ascending."""
    goals = [suspects(far, report, alarm) for alarm in those_with(report, "alarm")]
    found = []
    for broken in subsets(all_candidates(far, report)):
        if all([meets(goal, broken) for goal in goals]):
            found.append(broken)
    return found


def subsets(components):
    """Return a list of all sets of some of the components, ascending."""
    found = [()]
    # From the last one on: the sets that begin with a component come ahead
    # of all those that begin with a later one, but behind the empty one.
    for component in components[::-1]:
        longer = [(component,) + chosen for chosen in found]
        found = [()] + longer + found[1:]
    return found
