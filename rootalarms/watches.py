"""Watches: a net and what is seen of it so far."""

from rootalarms.errors import LimitError, NetError, NothingDone, NumberError, Unexplained, WordError
from rootalarms.few import smallest
from rootalarms.nets import MOST_COMPONENTS, check_component, is_below, nears
from rootalarms.objects import Net
from rootalarms.reports import WORDS, free_bits, limits, verdict, watched_bits
from rootalarms.sets import SETS


class Watch:
    """A report of a net that is changed step by step, and each step can be taken back."""

    def __init__(self, net, report=None):
        if not isinstance(net, Net):
            raise NetError("not a Net")
        self._net = net
        self._near = nears(net.needs)
        if report is None:
            report = ("unseen",) * len(self._near)
        watched_bits(report, len(self._near))
        self._report = report
        # The reports ahead of each change that has not been taken back, the earliest first.
        self._past = []

    @property
    def net(self):
        """The Net."""
        return self._net

    @property
    def report(self):
        """The word of each component."""
        return self._report

    @report.setter
    def report(self, value):
        self.assign_report(value)

    @property
    def candidates(self):
        """The set of the components that are in the reach of no quiet one."""
        _, quiet = watched_bits(self._report, len(self._near))
        return SETS[free_bits(self._near, quiet)]

    @property
    def explained(self):
        """Whether there is an explanation."""
        _, goals = limits(self._near, self._report)
        return 0 not in goals

    @property
    def fewest(self):
        """The first one of the smallest explanations, or None."""
        return smallest(self._near, self._report)

    @property
    def changes(self):
        """How many changes have not been taken back."""
        return len(self._past)

    def assign_report(self, report):
        """Put another report in the place of this one."""
        watched_bits(report, len(self._near))
        self._refuse(report)
        self._change(report)

    def see(self, component, word):
        """Put a word in the place of a component."""
        check_component(component, len(self._near))
        if word not in WORDS:
            raise WordError("not a word of a report")
        report = self._replaced(component, word)
        self._refuse(report)
        self._change(report)

    def __call__(self, component, word):
        """Do as see does."""
        self.see(component, word)

    def forget(self, component):
        """Put "unseen" in the place of a component."""
        check_component(component, len(self._near))
        # Nothing to refuse: fewer watched components have all explanations that these have, and perhaps others.
        self._change(self._replaced(component, "unseen"))

    def undo(self):
        """Take back the last change that has not been taken back."""
        if not self._past:
            raise NothingDone("there is nothing to take back")
        self._report = self._past.pop()

    def trying(self):
        """Return a context manager that takes everything back if an exception leaves its block."""
        return Trying(self)

    def __getitem__(self, component):
        check_component(component, len(self._near))
        return self._report[component]

    def __iter__(self):
        raise TypeError("a watch is not iterated over")

    def __len__(self):
        return len([word for word in self._report if word != "unseen"])

    def __contains__(self, thing):
        return is_below(thing, len(self._near)) and thing in self.candidates

    def __eq__(self, other):
        return isinstance(other, Watch) and self._net == other._net and self._report == other._report

    def __repr__(self):
        return "".join([self.__class__.__name__, f"({len(self)} watched, {len(self.candidates)} candidates)"])

    def _replaced(self, component, word):
        """Return the report with this word in the place of a component."""
        return self._report[:component] + (word,) + self._report[component + 1:]

    def _change(self, report):
        """Take a report that is not refused."""
        self._past.append(self._report)
        self._report = report

    def _refuse(self, report):
        """Raise an error if this kind of watch refuses a report."""


class Careful(Watch):
    """A Watch that refuses reports without an explanation."""

    def __init__(self, net, report=None):
        Watch.__init__(self, net, report)
        self._refuse(self._report)

    def _refuse(self, report):
        super()._refuse(report)
        found = verdict(self._net.needs, report)
        if found[0] == "none":
            raise Unexplained(found[1], found[2])


class Small(Watch):
    """A Watch that refuses reports with more than `most` watched components."""

    def __init__(self, net, report=None, most=4):
        Watch.__init__(self, net, report)
        if not is_below(most, MOST_COMPONENTS + 1):
            raise NumberError("not a number of watched components")
        self._most = most
        self._refuse(self._report)

    @property
    def most(self):
        """The largest number of watched components that it takes."""
        return self._most

    def _refuse(self, report):
        super()._refuse(report)
        amount = len([word for word in report if word != "unseen"])
        if amount > self._most:
            raise LimitError(amount, self._most)


class CarefulSmall(Careful, Small):
    """A Watch that refuses what Small refuses, and then what Careful refuses."""

    def __init__(self, net, report=None, most=4):
        # The _refuse of Careful asks that of Small first, as Small stands behind Careful among the bases.
        Small.__init__(self, net, report, most)


class Trying:
    """A block of changes to a watch that stay only if no exception leaves it."""

    def __init__(self, watch):
        self._watch = watch
        self._begun = None

    def __enter__(self):
        # A block may be begun again within itself, so each remembers the one around it.
        self._begun = Beginning(self._watch, self._begun)

    def __exit__(self, kind, value, trace):
        watch = self._watch
        if kind is not None:
            watch._report = self._begun.words
            watch._past = self._begun.past
        self._begun = self._begun.around


class Beginning:
    """What a watch was when a block began."""

    def __init__(self, watch, around):
        self.words = watch.report
        self.past = list(watch._past)
        self.around = around
