"""The answers are those that are found a second way, by trying all sets of components."""

import unittest
from itertools import product

from rootalarms import advice, certain, few, nets, reports

from tests import second
from tests.values import NETS, changed, larger_cases, small_cases, some_nets, some_reports


def strict(value):
    """A text that differs for values of different kinds (True and 1, a list and a tuple)."""
    return repr(value)


def things_for(net):
    """Every value that has the form of an answer, with each set and each number of the net."""
    many = range(len(net))
    everything = second.all_sets(len(net))
    return (
        [("broken", broken) for broken in everything]
        + [(word, c) for word in ("broken", "whole", "open", "none") for c in range(-1, len(net) + 1)]
        + [("open", one, other) for one in everything for other in everything]
        + [("none", c, quiets) for c in many for size in range(len(net) + 1) for quiets in product(many, repeat=size)]
    )


class SecondWayTest(unittest.TestCase):
    def same(self, found, wanted, *about):
        self.assertEqual(strict(found), strict(wanted), about)

    def check_net(self, net):
        for component in range(len(net)):
            self.same(nets.reach(net, component), second.reach(net, component), net, component)
            self.same(nets.above(net, component), second.above(net, component), net, component)
        self.same(nets.rings(net), second.rings(net), net)
        everything = second.all_sets(len(net))
        for broken, watched in zip(everything, everything[::-1]):
            self.same(nets.alarms(net, broken), second.alarms(net, broken), net, broken)
            wanted = second.report_of(net, broken, watched)
            self.same(reports.report_of(net, broken, watched), wanted, net, broken, watched)
            self.same(advice.groups(net, watched), second.groups(net, watched), net, watched)

    def check_report(self, net, report):
        found = second.explanations(net, report)
        self.same(list(reports.explanations(net, report)), found, net, report)
        self.same(reports.how_many(net, report), len(found), net, report)
        self.same(reports.candidates(net, report), second.candidates(net, report), net, report)
        self.same(reports.verdict(net, report), second.verdict(net, report), net, report)
        self.same(certain.certain(net, report), second.certain(net, report), net, report)
        self.same(certain.expected(net, report), second.expected(net, report), net, report)
        for component in range(len(net)):
            wanted = second.witness(net, report, component)
            self.same(certain.witness(net, report, component), wanted, net, report, component)
            wanted = second.halves(net, report, component)
            self.same(advice.halves(net, report, component), wanted, net, report, component)
        self.same(few.fewest(net, report), second.fewest(net, report), net, report)
        self.same(advice.next_watch(net, report), second.next_watch(net, report), net, report)

    def check_fewer(self, net, report):
        self.same(few.apart(net, report), second.apart(net, report), net, report)
        self.same(advice.needless(net, report), second.needless(net, report), net, report)
        self.same(advice.core(net, report), second.core(net, report), net, report)

    def check_shows(self, net, report, things):
        right = {strict(thing) for thing in second.verdicts(net, report)}
        for thing in things:
            self.same(reports.shows_verdict(net, report, thing), strict(thing) in right, net, report, thing)
        for component in range(len(net)):
            right = {strict(thing) for thing in second.witnesses(net, report, component)}
            for thing in things:
                found = certain.shows_witness(net, report, component, thing)
                self.same(found, strict(thing) in right, net, report, component, thing)

    def test_all_small_nets(self):
        for many in (1, 2, 3):
            for net in second.all_nets(many):
                self.check_net(net)

    def test_all_reports_of_all_small_nets(self):
        for net, report in small_cases():
            self.check_report(net, report)
            self.check_fewer(net, report)

    def test_larger_nets(self):
        for many in range(4, 9):
            for net in some_nets(many + 100, many, 12):
                self.check_net(net)
        for net in NETS:
            self.check_net(net)

    def test_reports_of_larger_nets(self):
        for net, report in larger_cases():
            self.check_report(net, report)
        for net in NETS:
            for report in some_reports(7, net, 20):
                self.check_report(net, report)

    def test_fewer_watched_ones_of_larger_nets(self):
        for net, report in larger_cases()[::4]:
            self.check_fewer(net, report)
        for net in NETS:
            for report in some_reports(8, net, 4) + [("alarm",) * len(net), ("quiet",) * len(net)]:
                self.check_fewer(net, report)

    def test_fewer_watched_ones_where_all_are_watched(self):
        for net, report in larger_cases()[1::20]:
            for broken in second.all_sets(len(net))[::15]:
                self.check_fewer(net, second.report_of(net, broken, range(len(net))))

    def test_the_cases_are_of_both_kinds(self):
        explained = [bool(second.explanations(net, report)) for net, report in small_cases()]
        self.assertGreater(explained.count(True), 400)
        self.assertGreater(explained.count(False), 400)

    def test_everything_of_the_form_of_an_answer(self):
        for many in (1, 2):
            for net in second.all_nets(many):
                for report in second.all_reports(many):
                    self.check_shows(net, report, things_for(net))
        for number, net in enumerate(second.all_nets(3)):
            for report in second.all_reports(3)[number % 2::2]:
                self.check_shows(net, report, things_for(net)[number % 3::3])

    def test_answers_with_one_place_changed(self):
        for net, report in small_cases()[::5] + larger_cases()[::20]:
            answers = [reports.verdict(net, report)] + [
                thing for component in range(len(net)) if (thing := certain.witness(net, report, component))
            ]
            right = second.verdicts(net, report)
            answers += [right[len(right) // 2], right[-1]]
            self.check_shows(net, report, [thing for answer in answers for thing in [answer] + changed(answer)])

    def test_other_answers_of_larger_nets(self):
        for net, report in larger_cases()[::6]:
            right = second.verdicts(net, report)
            self.check_shows(net, report, right[::7] + second.witnesses(net, report, len(net) - 1)[::97])


if __name__ == "__main__":
    unittest.main()
