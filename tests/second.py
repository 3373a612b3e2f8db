"""The answers a second way: straight from the document's definitions, by trying all sets.

Nothing here imports the program.
"""

import re
from functools import lru_cache
from itertools import combinations, product


@lru_cache(maxsize=None)
def all_sets(many):
    """All sets of the components below many, ascending as Python compares tuples."""
    return sorted(part for size in range(many + 1) for part in combinations(range(many), size))


def all_nets(many):
    """All nets with so many components."""
    rows = [
        [row for row in all_sets(many) if component not in row]
        for component in range(many)
    ]
    return list(product(*rows))


def all_reports(many):
    return list(product(("alarm", "quiet", "unseen"), repeat=many))


@lru_cache(maxsize=1000)
def depends(net):
    """Warshall's table: depends(net)[a][b] tells whether b is in the reach of a."""
    many = len(net)
    table = [[a == b or b in net[a] for b in range(many)] for a in range(many)]
    for middle in range(many):
        for a in range(many):
            for b in range(many):
                if table[a][middle] and table[middle][b]:
                    table[a][b] = True
    return table


def reach(net, component):
    return tuple(b for b in range(len(net)) if depends(net)[component][b])


def above(net, component):
    return tuple(a for a in range(len(net)) if depends(net)[a][component])


def rings(net):
    table = depends(net)
    many = range(len(net))
    return tuple(sorted({tuple(b for b in many if table[a][b] and table[b][a]) for a in many}))


@lru_cache(maxsize=100000)
def alarms(net, broken):
    """Alarms spread from the broken ones to what depends on them directly, until no more do."""
    found = set(broken)
    while True:
        more = found | {a for a, row in enumerate(net) if found & set(row)}
        if more == found:
            return tuple(sorted(found))
        found = more


def report_of(net, broken, watched):
    heard = alarms(net, broken)
    return tuple(
        "unseen" if c not in watched else "alarm" if c in heard else "quiet"
        for c in range(len(net))
    )


def with_word(report, word):
    return tuple(c for c, found in enumerate(report) if found == word)


@lru_cache(maxsize=1000)
def explanations(net, report):
    """All sets that make each watched component do what the report says."""
    found = []
    for broken in all_sets(len(net)):
        heard = alarms(net, broken)
        if all((word == "alarm") == (c in heard) for c, word in enumerate(report) if word != "unseen"):
            found.append(broken)
    return found


def clearers(net, report, component):
    return tuple(q for q in with_word(report, "quiet") if component in reach(net, q))


def candidates(net, report):
    return tuple(c for c in range(len(net)) if not clearers(net, report, c))


def refutations(net, report):
    """All ("none", alarm, quiets) that show that there is no explanation, the first ones first."""
    return [
        ("none", alarm, quiets)
        for alarm in with_word(report, "alarm")
        for quiets in product(*[clearers(net, report, part) for part in reach(net, alarm)])
    ]


def verdicts(net, report):
    """All values that shows_verdict takes."""
    return [("broken", broken) for broken in explanations(net, report)] + refutations(net, report)


def verdict(net, report):
    found = explanations(net, report)
    if found:
        return ("broken", max(found, key=len))
    return refutations(net, report)[0]


def word_for(rows, yes, no):
    if all(rows):
        return yes
    return "open" if any(rows) else no


def certain(net, report):
    found = explanations(net, report)
    if not found:
        return None
    return tuple(word_for([c in broken for broken in found], "broken", "whole") for c in range(len(net)))


def expected(net, report):
    found = [alarms(net, broken) for broken in explanations(net, report)]
    if not found:
        return None
    return tuple(word_for([c in heard for heard in found], "alarm", "quiet") for c in range(len(net)))


def accusers(net, report, component):
    """The alarming components that no other candidate than this one can explain."""
    suspects = candidates(net, report)
    return tuple(
        alarm for alarm in with_word(report, "alarm")
        if [c for c in reach(net, alarm) if c in suspects] == [component]
    )


def witnesses(net, report, component):
    """All values that shows_witness takes."""
    found = explanations(net, report)
    if not found:
        return []
    broken = [("broken", alarm) for alarm in accusers(net, report, component)]
    whole = [("whole", quiet) for quiet in clearers(net, report, component)]
    choices = [
        ("open", one, other) for one in found if component in one
        for other in found if component not in other
    ]
    return broken + whole + choices


def witness(net, report, component):
    sure = certain(net, report)
    if sure is None:
        return None
    if sure[component] == "broken":
        return ("broken", accusers(net, report, component)[0])
    if sure[component] == "whole":
        return ("whole", clearers(net, report, component)[0])
    one = candidates(net, report)
    return ("open", one, tuple(c for c in one if c != component))


def fewest(net, report):
    return min(explanations(net, report), key=lambda broken: (len(broken), broken), default=None)


def apart(net, report):
    if not explanations(net, report):
        return None
    suspects = candidates(net, report)
    alarming = with_word(report, "alarm")
    found = []
    for chosen in all_sets(len(net)):
        shared = [c for a, b in combinations(chosen, 2) for c in suspects if c in reach(net, a) and c in reach(net, b)]
        if set(chosen) <= set(alarming) and not shared:
            found.append(chosen)
    return min(found, key=lambda chosen: (-len(chosen), chosen))


def halves(net, report, component):
    found = explanations(net, report)
    alarm = sum(component in alarms(net, broken) for broken in found)
    return (alarm, len(found) - alarm)


def next_watch(net, report):
    words = expected(net, report)
    if words is None:
        return None
    choice = [c for c in range(len(net)) if report[c] == "unseen" and words[c] == "open"]
    return min(choice, key=lambda c: (max(halves(net, report, c)), c), default=None)


@lru_cache(maxsize=1000)
def all_heard(net):
    """Each set of components that may be broken, with what alarms then."""
    return [(broken, alarms(net, broken)) for broken in all_sets(len(net))]


def explanations_of(net, report, watched):
    """The explanations if only some components of a report were watched."""
    return [
        broken for broken, heard in all_heard(net)
        if all((report[c] == "alarm") == (c in heard) for c in watched)
    ]


def watched_in(report):
    return tuple(c for c, word in enumerate(report) if word != "unseen")


def needless(net, report):
    found = explanations(net, report)
    if not found:
        return None
    watched = watched_in(report)
    return tuple(c for c in watched if explanations_of(net, report, [o for o in watched if o != c]) == found)


def core(net, report):
    found = explanations(net, report)
    if not found:
        return None
    watched = watched_in(report)
    for size in range(len(watched) + 1):
        for kept in combinations(watched, size):
            if explanations_of(net, report, kept) == found:
                return tuple(word if c in kept else "unseen" for c, word in enumerate(report))
    raise AssertionError("the report itself has its explanations")


def groups(net, watched):
    many = range(len(net))
    heard = [tuple(c for c in alarms(net, (own,)) if c in watched) for own in many]
    return tuple(sorted({tuple(b for b in many if heard[b] == heard[a]) for a in many}))


def text(net):
    return "\n".join([":".join([str(c), "".join(" " + str(need) for need in row)]) for c, row in enumerate(net)] + [""])


@lru_cache(maxsize=None)
def texts(most):
    """The nets with up to so many components by their texts."""
    return {text(net): net for many in range(1, most + 1) for net in all_nets(many)}


def read(given):
    """The net with exactly this text, or None: each line is matched as a whole."""
    lines = re.fullmatch(r"((?:[0-7]:(?: [0-7])*\n){1,8})", given)
    if not lines:
        return None
    net = []
    for line in lines[1].split("\n")[:-1]:
        number, *needs = re.findall(r"[0-7]", line)
        if int(number) != len(net):
            return None
        net.append(tuple(map(int, needs)))
    many = len(net)
    for own, row in enumerate(net):
        if own in row or list(row) != sorted(set(row)) or any(need >= many for need in row):
            return None
    return tuple(net)
