"""Nets: which components depend on which, and which of them alarm.

What is meant by the bits of a set stands in sets.py. In all files `near` is a
list that has for each component the bits of itself and of those that it
depends on directly, and `far` is one that has the bits of its reach.
"""

from rootalarms.errors import ComponentError, NetError, SetError
from rootalarms.sets import BITS, SETS

MOST_COMPONENTS = 8


def is_net(thing):
    """Tell whether any value is a net."""
    return len(near_bits(thing)) > 0


def is_set(net, thing):
    """Tell whether any value is a set of components of the net."""
    return bits_of(thing, len(nears(net))) >= 0


def reach(net, component):
    """Return the set of the component and all that it depends on."""
    near = nears(net)
    check_component(component, len(near))
    return SETS[reached_bits(near, 1 << component)]


def above(net, component):
    """Return the set of the component and all that depend on it."""
    near = nears(net)
    check_component(component, len(near))
    return SETS[heard_bits(near, 1 << component)]


def rings(net):
    """Return all rings as sets, ascending."""
    return all_rings(nears(net))


def alarms(net, broken):
    """Return the set of the components that alarm if just those of a set are broken."""
    near = nears(net)
    return SETS[heard_bits(near, checked_bits(broken, len(near)))]


# The rest is for the other files, too.


def is_below(thing, limit):
    """Tell whether any value is an integer from 0 on that is below a limit."""
    return isinstance(thing, int) and not isinstance(thing, bool) and thing >= 0 and thing < limit


def check_component(component, many):
    """Raise ComponentError if this is none of so many components."""
    if not is_below(component, many):
        raise ComponentError("not a component of the net")


def bits_of(thing, many):
    """Return the bits of any value that is a set of some of so many components, otherwise -1."""
    if not isinstance(thing, tuple):
        return -1
    for part in thing:
        # A bool equals an integer, so the table alone would take it for one.
        if part is True or part is False or not isinstance(part, int):
            return -1
    bits = BITS.get(thing, -1)
    if bits >> many:
        return -1
    return bits


def checked_bits(chosen, many):
    """Return the bits of a set of some of so many components; SetError if this is none."""
    bits = bits_of(chosen, many)
    if bits < 0:
        raise SetError("not a set of components of the net")
    return bits


def near_bits(thing):
    """Return the list near of any value that is a net, otherwise an empty one."""
    near = []
    if not isinstance(thing, tuple) or len(thing) > MOST_COMPONENTS:
        return near
    bit = 1
    limit = 1 << len(thing)
    for needs in thing:
        if not isinstance(needs, tuple):
            return []
        bits = 0
        if needs:
            # As in bits_of, but without a call for each row: no question is asked without this check.
            for part in needs:
                if part is True or part is False or not isinstance(part, int):
                    return []
            bits = BITS.get(needs, limit)
            if bits >= limit or bits & bit:
                return []
        near.append(bits | bit)
        bit = bit << 1
    return near


def nears(net):
    """Return the list near of a net; NetError if this is none."""
    near = near_bits(net)
    if not near:
        raise NetError("not a net")
    return near


def reached_bits(near, start):
    """Return the bits of some components and all that they depend on."""
    found = start
    known = 0
    while found != known:
        fresh = found & ~known
        known = found
        for component in SETS[fresh]:
            found = found | near[component]
    return found


def heard_bits(near, broken):
    """Return the bits of the components that alarm if just the broken ones are broken."""
    heard = broken
    known = -1
    while heard != known:
        known = heard
        bit = 1
        for bits in near:
            if bits & heard:
                heard = heard | bit
            bit = bit << 1
    return heard


def reaches(near):
    """Return the list far, at once for all components."""
    far = near
    for middle in range(len(near)):
        bit = 1 << middle
        through = far[middle]
        # A component that depends on nothing adds nothing to the reach of another one.
        if through != bit:
            far = [bits | through if bits & bit else bits for bits in far]
    return far


def all_rings(near):
    """Return all rings as sets, ascending."""
    found = {}
    # Those in one ring are just those with the same reach.
    for component, bits in enumerate(reaches(near)):
        found.setdefault(bits, []).append(component)
    return tuple([tuple(members) for members in found.values()])
