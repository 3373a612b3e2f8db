"""[2] [3] The general rules, and the exceptions of each function."""

import unittest
from copy import deepcopy
from itertools import product

from rootalarms import advice, certain, few, nets, reports
from rootalarms.errors import ComponentError, NetError, ReportError, SetError

from tests.values import NETS, ODD, WRONG_COMPONENTS, WRONG_NETS, WRONG_REPORTS, WRONG_SETS

NET = ((1,), ())
GOOD = {"net": NET, "component": 0, "set": (1,), "report": ("unseen", "alarm"), "thing": ("broken", 1)}
WRONG = {
    "net": (WRONG_NETS, NetError),
    "component": (WRONG_COMPONENTS, ComponentError),
    "set": (WRONG_SETS, SetError),
    "report": (WRONG_REPORTS, ReportError),
    "thing": (ODD, None),
}


def first_explanation(net, report):
    """What the generator gives first, so that it raises what it has to raise."""
    return next(reports.explanations(net, report))


# Each function that raises: what it takes, in the order of its arguments and of its exceptions.
CALLS = {
    "is_set": (nets.is_set, ("net", "thing")),
    "reach": (nets.reach, ("net", "component")),
    "above": (nets.above, ("net", "component")),
    "rings": (nets.rings, ("net",)),
    "alarms": (nets.alarms, ("net", "set")),
    "report_of": (reports.report_of, ("net", "set", "set")),
    "candidates": (reports.candidates, ("net", "report")),
    "verdict": (reports.verdict, ("net", "report")),
    "shows_verdict": (reports.shows_verdict, ("net", "report", "thing")),
    "explanations": (first_explanation, ("net", "report")),
    "how_many": (reports.how_many, ("net", "report")),
    "certain": (certain.certain, ("net", "report")),
    "expected": (certain.expected, ("net", "report")),
    "witness": (certain.witness, ("net", "report", "component")),
    "shows_witness": (certain.shows_witness, ("net", "report", "component", "thing")),
    "fewest": (few.fewest, ("net", "report")),
    "apart": (few.apart, ("net", "report")),
    "halves": (advice.halves, ("net", "report", "component")),
    "next_watch": (advice.next_watch, ("net", "report")),
    "needless": (advice.needless, ("net", "report")),
    "core": (advice.core, ("net", "report")),
    "groups": (advice.groups, ("net", "set")),
}


def strict(value):
    """A text that differs for values of different kinds (True and 1, a list and a tuple)."""
    return repr(value)


class RaisesTest(unittest.TestCase):
    def raised(self, function, arguments):
        """The class of what a call raises, None if it raises nothing."""
        before = strict(arguments)
        try:
            function(*arguments)
            found = None
        except (NetError, ComponentError, SetError, ReportError) as error:
            found = type(error)
        self.assertEqual(strict(arguments), before)
        return found

    def test_good_arguments_raise_nothing(self):
        for name, (function, kinds) in CALLS.items():
            with self.subTest(name=name):
                self.assertIsNone(self.raised(function, [GOOD[kind] for kind in kinds]))

    def test_one_wrong_argument(self):
        for name, (function, kinds) in CALLS.items():
            for place, kind in enumerate(kinds):
                values, error = WRONG[kind]
                for value in values:
                    arguments = [GOOD[other] for other in kinds]
                    arguments[place] = value
                    with self.subTest(name=name, kind=kind, value=repr(value)[:80]):
                        self.assertIs(self.raised(function, arguments), error)

    def test_odd_values_in_every_place(self):
        for name, (function, kinds) in CALLS.items():
            for place, kind in enumerate(kinds):
                for value in ODD:
                    arguments = [GOOD[other] for other in kinds]
                    arguments[place] = value
                    with self.subTest(name=name, kind=kind, value=repr(value)[:80]):
                        self.assertIn(self.raised(function, arguments), (WRONG[kind][1], None))

    def test_several_wrong_arguments(self):
        for name, (function, kinds) in CALLS.items():
            for wrong in product((False, True), repeat=len(kinds)):
                expected = None
                for kind, bad in zip(kinds, wrong):
                    if bad and expected is None:
                        expected = WRONG[kind][1]
                for turn in range(12):
                    arguments = [
                        WRONG[kind][0][turn] if bad else GOOD[kind] for kind, bad in zip(kinds, wrong)
                    ]
                    with self.subTest(name=name, wrong=wrong, turn=turn):
                        self.assertIs(self.raised(function, arguments), expected)

    def test_what_fits_another_net_is_wrong(self):
        three = ((), (), ())
        self.assertIs(self.raised(nets.reach, [NET, 2]), ComponentError)
        self.assertIsNone(self.raised(nets.reach, [three, 2]))
        self.assertIs(self.raised(nets.alarms, [NET, (0, 2)]), SetError)
        self.assertIsNone(self.raised(nets.alarms, [three, (0, 2)]))
        self.assertIs(self.raised(reports.verdict, [NET, ("quiet",) * 3]), ReportError)
        self.assertIsNone(self.raised(reports.verdict, [three, ("quiet",) * 3]))

    def test_either_set_of_report_of(self):
        self.assertIs(self.raised(reports.report_of, [NET, (0, 2), ()]), SetError)
        self.assertIs(self.raised(reports.report_of, [NET, (), (0, 2)]), SetError)

    def test_a_generator_raises_at_the_latest_when_its_first_result_is_asked_for(self):
        for net, report, error in ((None, ("quiet",), NetError), (NET, ("quiet",), ReportError)):
            with self.assertRaises(error):
                next(reports.explanations(net, report))


class AskedTwiceTest(unittest.TestCase):
    """[3] Arguments are not modified, and an equal question has an equal answer."""

    def test_asked_twice(self):
        for name, (function, kinds) in CALLS.items():
            for net in NETS:
                good = {"net": net, "component": 0, "set": (0,), "report": ("alarm",) * len(net), "thing": [[0], {}]}
                arguments = [good[kind] for kind in kinds]
                first = strict(function(*arguments))
                with self.subTest(name=name, net=net):
                    self.assertEqual(strict(function(*arguments)), first)
                    self.assertEqual(strict(function(*deepcopy(arguments))), first)
                    self.assertEqual(strict(arguments), strict([good[kind] for kind in kinds]))

    def test_a_thing_is_not_modified(self):
        before = strict(ODD)
        for thing in ODD:
            nets.is_net(thing)
            nets.is_set(NET, thing)
            reports.shows_verdict(NET, GOOD["report"], thing)
            certain.shows_witness(NET, GOOD["report"], 0, thing)
        self.assertEqual(strict(ODD), before)

    def test_a_call_that_raises_changes_nothing(self):
        before = strict(certain.certain(NET, GOOD["report"]))
        for net in WRONG_NETS:
            with self.assertRaises(NetError):
                certain.certain(net, GOOD["report"])
        self.assertEqual(strict(certain.certain(NET, GOOD["report"])), before)

    def test_results_may_be_passed_back(self):
        for net in NETS:
            everything = tuple(range(len(net)))
            report = reports.report_of(net, nets.reach(net, 0), nets.above(net, everything[-1]))
            self.assertIs(reports.shows_verdict(net, report, reports.verdict(net, report)), True)
            for component in everything:
                thing = certain.witness(net, report, component)
                self.assertIs(certain.shows_witness(net, report, component, thing), True)
            found = list(reports.explanations(net, report))
            for thing in (found, tuple(found), ("broken", found), ("open", found, found)):
                self.assertIs(reports.shows_verdict(net, report, thing), False)
                self.assertIs(certain.shows_witness(net, report, 0, thing), False)


if __name__ == "__main__":
    unittest.main()
