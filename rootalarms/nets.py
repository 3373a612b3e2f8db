"""Nets: which components depend on which, and which of them alarm."""

from rootalarms.errors import ComponentError, NetError, SetError

MOST_COMPONENTS = 8


def is_net(thing):
    """Tell whether any value is a net."""
    if not isinstance(thing, tuple) or len(thing) < 1 or len(thing) > MOST_COMPONENTS:
        return False
    for component, needs in enumerate(thing):
        if not is_set_of(thing, needs) or component in needs:
            return False
    return True


def is_set(net, thing):
    """Tell whether any value is a set of components of the net."""
    check_net(net)
    return is_set_of(net, thing)


def reach(net, component):
    """Return the set of the component and all that it depends on."""
    check_net(net)
    check_component(net, component)
    return reach_of(net, component)


def above(net, component):
    """Return the set of the component and all that depend on it."""
    check_net(net)
    check_component(net, component)
    return tuple([other for other, found in enumerate(reaches(net)) if component in found])


def rings(net):
    """Return all rings as sets, ascending."""
    check_net(net)
    far = reaches(net)
    found = []
    for component in range(len(net)):
        ring = tuple([other for other in far[component] if component in far[other]])
        # Each ring is met once for each of its members: only the least one counts.
        if ring[0] == component:
            found.append(ring)
    return tuple(found)


def alarms(net, broken):
    """Return the set of the components that alarm if just those of a set are broken."""
    check_net(net)
    check_set(net, broken)
    return tuple([component for component, found in enumerate(reaches(net)) if meets(found, broken)])


# The rest is for the other files, too. It does not check what it is passed,
# so that a function of the interface checks its arguments once.


def check_net(net):
    """Raise NetError if this is no net."""
    if not is_net(net):
        raise NetError("not a net")


def check_component(net, component):
    """Raise ComponentError if this is no component of the net."""
    if not is_component(net, component):
        raise ComponentError("not a component of the net")


def check_set(net, chosen):
    """Raise SetError if this is no set of components of the net."""
    if not is_set_of(net, chosen):
        raise SetError("not a set of components of the net")


def is_component(net, thing):
    """Tell whether any value is one of the numbers of the rows of a tuple."""
    return isinstance(thing, int) and not isinstance(thing, bool) and thing >= 0 and thing < len(net)


def is_set_of(net, thing):
    """Tell whether any value is an ascending tuple of different components."""
    if not isinstance(thing, tuple):
        return False
    last = -1
    for part in thing:
        if not is_component(net, part) or part <= last:
            return False
        last = part
    return True


def reach_of(net, component):
    """Return the reach of a component."""
    seen = [other == component for other in range(len(net))]
    waiting = [component]
    while waiting:
        current = waiting.pop()
        for need in net[current]:
            if not seen[need]:
                seen[need] = True
                waiting.append(need)
    return tuple([other for other in range(len(net)) if seen[other]])


def reaches(net):
    """Return a tuple with the reach of each component."""
    return tuple([reach_of(net, component) for component in range(len(net))])


def meets(one, other):
    """Tell whether two sets have a component in common."""
    return any([part in other for part in one])


def is_within(part, whole):
    """Tell whether all components of one set are in another one."""
    return all([component in whole for component in part])
