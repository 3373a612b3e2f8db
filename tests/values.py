"""Nets, reports and odd values that several tests use."""

from random import Random

from rootalarms.errors import LimitError, NetError, Unexplained
from rootalarms.objects import Net
from rootalarms.watches import Careful, CarefulSmall, Small, Watch

from tests import second

OVERVIEW = ((2,), (2, 3), (), (4,), (3,))
ALONE = ((),)
ROW = ((1,), (2,), (3,), (4,), (5,), (6,), (7,), ())
RING = ((1,), (2,), (3,), (4,), (5,), (6,), (7,), (0,))
SIDE_BY_SIDE = ((),) * 8
TWO_RINGS = ((1,), (0, 2), (3,), (2,), (), (4,))
EVERYTHING = tuple(tuple(c for c in range(8) if c != own) for own in range(8))
NETS = (OVERVIEW, ALONE, ROW, RING, SIDE_BY_SIDE, TWO_RINGS, EVERYTHING)


def deep(kind):
    """A value nested twenty deep."""
    value = 1
    for _ in range(20):
        value = {"next": value} if kind is dict else kind([value])
    return value


# Objects of the package: of one component and of two, so that they look as much like good values as they can.
OBJECTS = (
    Net(()), Net((1,), ()), Net(*ROW), Watch(Net(())), Watch(Net((1,), ()), ("unseen", "alarm")),
    Careful(Net((), ())), Small(Net((1,), ()), ("quiet", "quiet"), 2), CarefulSmall(Net(())),
)

ODD = (
    None, True, False, 0, 1, -1, 8, 10**13 - 1, 1 - 10**13, "", "alarm", "broken", "x\ny", "a" * 1000,
    (), [], {}, (0,), [0], {0: 1}, (True,), (None,), ("broken",), ("none", 0), ("open", (), ()),
    ((), ()), [()], ([],), ((0,), ()), (0, (0,)), ("broken", 0, 1, 2),
    deep(tuple), deep(list), deep(dict), ("broken", deep(tuple)), ("none", 0, deep(list)),
    (0,) * 8000, [()] * 7999, ((),) * 7999, ("alarm",) * 8000, tuple(range(8000)),
    ("broken", tuple(range(7000))), {number: None for number in range(4000)},
    NetError("x"), (NetError("x"), NetError("x")), ("broken", Unexplained(0, (0,))), LimitError(9, 8),
    *OBJECTS, OBJECTS, list(OBJECTS), (OBJECTS[0],), ("broken", OBJECTS[0]), ("broken", (OBJECTS[1],)),
    ("none", 0, (OBJECTS[0],)), ("open", OBJECTS[0], OBJECTS[1]), (OBJECTS[2], 0), {0: OBJECTS[0]},
)

WRONG_NETS = (
    (), ((),) * 9, [()], [(), ()], ([], ()), ([1], ()), ((1,), []), ((0,),), ((), (1,)), ((1,),), ((2,), ()),
    ((-1,), ()), ((2, 1), (), ()), ((1, 1), (), ()), ((True,), ()), ((), (False,)), ((1, True), ()), ((None,), ()),
    (("1",), ()), ((1.0,), ()), (((1,),), ()), ((1,), 0), (None,), ("",), ({},), ((1,), {}), {0: ()},
    "net", None, True, 0, 1, *OBJECTS, (OBJECTS[0],), ((OBJECTS[0],), ()), ((1,), OBJECTS[1]),
)

WRONG_COMPONENTS = (-1, 2, 8, 10**13 - 1, True, False, None, "0", "", (0,), [0], (), [], {}, {0: 0}, 0.0, *OBJECTS)

WRONG_SETS = (
    [], [0], [0, 1], (1, 0), (0, 0), (0, 1, 1), (-1,), (2,), (0, 2), (0, 1, 2), (True,), (False,), (0, True),
    (False, 1), (None,), ("0",), ((0,),), ([0],), (0.0,), None, True, False, 0, 1, "", "01", {}, {0: True},
    *OBJECTS, (OBJECTS[0],), (0, OBJECTS[1]),
)

WRONG_REPORTS = (
    (), ("alarm",), ("alarm", "quiet", "unseen"), ["alarm", "quiet"], ("alarm", "Quiet"), ("alarm", "quiet "),
    ("alarm", ""), ("alarm", "open"), ("broken", "whole"), ("alarm", None), (True, False), (0, 1), ("alarm", 0),
    ("alarm", ("quiet",)), ("alarm", ["quiet"]), (("alarm", "quiet"),), ("alarm", {}), ("alarm", b"quiet"),
    {0: "alarm", 1: "quiet"}, "aq", "alarm", None, True, 2, *OBJECTS, (OBJECTS[0], "alarm"), ("alarm", OBJECTS[4]),
)

WRONG_WORDS = (
    "", "Alarm", "alarm ", "broken", "whole", "open", "none", None, True, False, 0, 1, ("alarm",), ["alarm"],
    {"alarm": 1}, (), [], b"alarm", *OBJECTS,
)

WRONG_NUMBERS = (-1, 9, 10**13 - 1, True, False, None, "4", "", (4,), [4], {}, 4.0, *OBJECTS)


def some_nets(seed, many, tries):
    """Nets with so many components, from ones with few dependencies to ones with many."""
    dice = Random(seed)
    found = []
    for turn in range(tries):
        share = (turn + 1) / (2 * tries)
        found.append(tuple(
            tuple(c for c in range(many) if c != own and dice.random() < share * share * 2)
            for own in range(many)
        ))
    return found


def some_reports(seed, net, tries):
    """Reports of a net; every second one is of a set of broken components and so has an explanation."""
    dice = Random(seed)
    many = range(len(net))
    found = []
    for turn in range(tries):
        if turn % 2:
            found.append(tuple(dice.choice(("alarm", "quiet", "unseen")) for _ in many))
            continue
        broken = tuple(c for c in many if dice.random() < 0.3)
        watched = tuple(c for c in many if dice.random() < 0.7)
        found.append(second.report_of(net, broken, watched))
    return found


def small_cases():
    """All nets of one to three components, each with all its reports."""
    return [
        (net, report)
        for many in (1, 2, 3) for net in second.all_nets(many) for report in second.all_reports(many)
    ]


def larger_cases():
    """Nets of four to eight components, each with some reports."""
    return [
        (net, report)
        for many in range(4, 9) for number, net in enumerate(some_nets(many, many, 30))
        for report in some_reports(number, net, 6)
    ]


def changed(value):
    """Values that are like this one but for one place: of another kind, omitted, repeated or added."""
    found = []
    if isinstance(value, tuple):
        found += [list(value), value + (0,), value + ((),), value + value[-1:], value[:1] + value, value[1:], value[:-1]]
        found += [tuple(reversed(value)), dict(enumerate(value)), value and (value,)]
        for place, part in enumerate(value):
            found += [value[:place] + (other,) + value[place + 1:] for other in changed(part)]
    elif isinstance(value, str):
        found += [value.upper(), value[:-1], "", (value,), None, "broken", "whole", "none", "open"]
    else:
        found += [bool(value), float(value), str(value), (value,), [value], None, value + 1, value - 1, 8, -1]
    return found
