"""Reports: which sets of broken components explain what is seen.

In this file and those that build on it, all as bits: `alarming` and `quiet`
are the sets of the components with these words in a report, `free` is the set
of all candidates, and `goals` has for each alarming component in turn the set
of the candidates in its reach. So there is no explanation exactly if a goal is
empty, and the explanations are those sets of candidates that have something of
each goal.
"""

from rootalarms.errors import ReportError
from rootalarms.nets import bits_of, checked_bits, heard_bits, is_below, nears, reached_bits
from rootalarms.sets import SETS

WORDS = ("alarm", "quiet", "unseen")


def report_of(net, broken, watched):
    """Return what the components of a set watched do if those of a set are broken."""
    near = nears(net)
    heard = heard_bits(near, checked_bits(broken, len(near)))
    seen = checked_bits(watched, len(near))
    words = []
    for component in range(len(near)):
        if not seen >> component & 1:
            words.append("unseen")
        elif heard >> component & 1:
            words.append("alarm")
        else:
            words.append("quiet")
    return tuple(words)


def candidates(net, report):
    """Return the set of the components that are in the reach of no quiet one."""
    near = nears(net)
    _, quiet = watched_bits(report, len(near))
    return SETS[free_bits(near, quiet)]


def verdict(net, report):
    """Return the greatest explanation, or what shows that there is none."""
    near = nears(net)
    alarming, quiet = watched_bits(report, len(near))
    free = free_bits(near, quiet)
    wrong = alarming & ~heard_bits(near, free)
    if wrong:
        alarm = SETS[wrong][0]
        return ("none", alarm, clearers(near, quiet, alarm))
    return ("broken", SETS[free])


def shows_verdict(net, report, thing):
    """Tell whether any value shows that there is an explanation, or that there is none."""
    near = nears(net)
    alarming, quiet = watched_bits(report, len(near))
    if not isinstance(thing, tuple):
        return False
    if len(thing) == 2 and thing[0] == "broken":
        return is_explanation(near, alarming, quiet, thing[1])
    if len(thing) == 3 and thing[0] == "none":
        return is_refutation(near, report, thing[1], thing[2])
    return False


def explanations(net, report):
    """Yield all explanations, ascending."""
    free, goals = limits(nears(net), report)
    found = all_explanations(free, goals)
    for bits in found:
        yield SETS[bits]


def how_many(net, report):
    """Return the number of explanations."""
    free, goals = limits(nears(net), report)
    return len(all_explanations(free, goals))


# The rest is for the other files, too.


def watched_bits(report, many):
    """Return alarming and quiet; ReportError if this is no report of so many components."""
    if not isinstance(report, tuple) or len(report) != many:
        raise ReportError("not a report of the net")
    alarming = 0
    quiet = 0
    bit = 1
    for word in report:
        if word == "alarm":
            alarming = alarming | bit
        elif word == "quiet":
            quiet = quiet | bit
        elif word != "unseen":
            raise ReportError("not a report of the net")
        bit = bit << 1
    return alarming, quiet


def free_bits(near, quiet):
    """Return free."""
    return (1 << len(near)) - 1 & ~reached_bits(near, quiet)


def limits(near, report):
    """Return free and goals; ReportError if this is no report."""
    alarming, quiet = watched_bits(report, len(near))
    free = free_bits(near, quiet)
    return free, [reached_bits(near, 1 << component) & free for component in SETS[alarming]]


def is_explanation(near, alarming, quiet, thing):
    """Tell whether any value is a set with which all watched components do what the report says."""
    bits = bits_of(thing, len(near))
    if bits < 0:
        return False
    heard = heard_bits(near, bits)
    return not heard & quiet and not alarming & ~heard


def is_refutation(near, report, alarm, quiets):
    """Tell whether any two values are an alarming component and quiet ones that clear its reach."""
    many = len(near)
    if not is_below(alarm, many) or report[alarm] != "alarm":
        return False
    parts = SETS[reached_bits(near, 1 << alarm)]
    if not isinstance(quiets, tuple) or len(quiets) != len(parts):
        return False
    cleared = {}
    for part, quiet in zip(parts, quiets):
        if not is_below(quiet, many) or report[quiet] != "quiet":
            return False
        if quiet not in cleared:
            cleared[quiet] = reached_bits(near, 1 << quiet)
        if not cleared[quiet] >> part & 1:
            return False
    return True


def clearers(near, quiet, alarm):
    """Return for each component in the reach of one that has no candidate there the least quiet one above it."""
    parts = reached_bits(near, 1 << alarm)
    least = {}
    for other in SETS[quiet]:
        for part in SETS[parts & reached_bits(near, 1 << other)]:
            least.setdefault(part, other)
    return tuple([least[part] for part in SETS[parts]])


def all_explanations(free, goals):
    """Return a list of the bits of all explanations, in the order of their sets."""
    if 0 in goals:
        return []
    # From the last candidate on, found has the sets of those that were taken so
    # far, without those sets that can have nothing of a goal any more. The empty
    # set is kept apart, as it comes ahead of the sets with the new candidate.
    found = []
    empty = [0]
    for component in SETS[free][::-1]:
        bit = 1 << component
        longer = [bit | bits for bits in empty + found]
        for goal in goals:
            if goal & -goal == bit:
                found = [bits for bits in found if bits & goal]
                empty = []
        found = longer + found
    return empty + found
