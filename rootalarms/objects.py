"""Nets as objects."""

from rootalarms.errors import LimitError, NetError, NumberError, TextError
from rootalarms.nets import MOST_COMPONENTS, all_rings, check_component, checked_bits
from rootalarms.nets import heard_bits, is_below, is_net, nears, reached_bits
from rootalarms.sets import SETS

DIGITS = "01234567"


class Net:
    """A net that does not change: net(broken) alarms, net[component] is a reach."""

    def __init__(self, *needs):
        self._near = nears(needs)
        self._needs = needs

    @property
    def needs(self):
        """The net as a tuple of tuples."""
        return self._needs

    @property
    def rings(self):
        """All rings as sets, ascending."""
        return all_rings(self._near)

    def __call__(self, broken):
        """Return the set of the components that alarm if just those of a set are broken."""
        return SETS[heard_bits(self._near, checked_bits(broken, len(self._near)))]

    def __getitem__(self, component):
        check_component(component, len(self._near))
        return SETS[reached_bits(self._near, 1 << component)]

    def __iter__(self):
        raise TypeError("a Net is not iterated over")

    def __len__(self):
        return len(self._needs)

    def __contains__(self, thing):
        return is_below(thing, len(self._needs))

    def __add__(self, other):
        if not isinstance(other, Net):
            raise NetError("not a Net")
        many = len(self._needs)
        if many + len(other._needs) > MOST_COMPONENTS:
            raise LimitError(many + len(other._needs), MOST_COMPONENTS)
        rows = list(self._needs) + [tuple([many + need for need in needs]) for needs in other._needs]
        return Net(*rows)

    def __neg__(self):
        rows = [
            tuple([other for other, needs in enumerate(self._needs) if component in needs])
            for component in range(len(self._needs))
        ]
        return Net(*rows)

    def __eq__(self, other):
        return isinstance(other, Net) and self._needs == other._needs

    def __repr__(self):
        return f"Net({len(self._needs)} components)"

    def text(self):
        """Return a line for each component, with its number and those that it depends on directly."""
        return text_of(self._needs)

    @classmethod
    def read(cls, text):
        """Return the net with exactly this text."""
        rows = rows_of(text)
        # What was read wrongly, or with something else beside it, has another text than this one.
        if not is_net(rows) or text_of(rows) != text:
            raise TextError("not the text of a net")
        return cls(*rows)

    @staticmethod
    def ring(many):
        """Return a net in which each component depends on the next one, and the last one on the first."""
        if not is_below(many, MOST_COMPONENTS + 1) or many == 0:
            raise NumberError("not a number of components")
        if many == 1:
            return Net(())
        rows = [((component + 1) % many,) for component in range(many)]
        return Net(*rows)


def text_of(rows):
    """Return the text of a net."""
    lines = []
    for component, needs in enumerate(rows):
        lines.append("".join([f"{component}:"] + [f" {need}" for need in needs] + ["\n"]))
    return "".join(lines)


def rows_of(text):
    """Return the rows of numbers in the lines of any value, without telling whether they are those of a net."""
    if not isinstance(text, str):
        return ()
    return tuple([tuple([DIGITS.find(word) for word in line.split(" ")[1:]]) for line in text.split("\n")[:-1]])
