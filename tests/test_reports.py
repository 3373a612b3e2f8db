"""[20] [21] [22] [23] Reports, candidates, verdicts and explanations."""

import inspect
import unittest

from rootalarms.reports import candidates, explanations, how_many, report_of, shows_verdict, verdict

from tests import second
from tests.values import ALONE, EVERYTHING, NETS, ODD, OVERVIEW, RING, ROW, SIDE_BY_SIDE

ALL = tuple(range(8))


def only(many, **words):
    """A report in which all are unseen but those named: only(3, c1="alarm")."""
    return tuple(words.get(f"c{component}", "unseen") for component in range(many))


class ReportOfTest(unittest.TestCase):
    """[20]"""

    def test_report(self):
        self.assertEqual(report_of(OVERVIEW, (4,), (0, 1, 2, 4)), ("quiet", "alarm", "quiet", "unseen", "alarm"))

    def test_nothing_watched(self):
        for net in NETS:
            self.assertEqual(report_of(net, (0,), ()), ("unseen",) * len(net))

    def test_everything_watched(self):
        for net in NETS:
            everything = tuple(range(len(net)))
            self.assertEqual(report_of(net, (), everything), ("quiet",) * len(net))
            self.assertEqual(report_of(net, everything, everything), ("alarm",) * len(net))

    def test_broken_is_not_watched(self):
        self.assertEqual(report_of(ROW, (7,), (0,)), only(8, c0="alarm"))
        self.assertEqual(report_of(ROW, (0,), (7,)), only(8, c7="quiet"))

    def test_the_broken_ones_explain_it(self):
        for net in NETS:
            everything = second.all_sets(len(net))
            for broken, watched in zip(everything, reversed(everything)):
                self.assertIs(shows_verdict(net, report_of(net, broken, watched), ("broken", broken)), True)


class CandidatesTest(unittest.TestCase):
    """[21]"""

    def test_candidates(self):
        self.assertEqual(candidates(OVERVIEW, only(5, c0="quiet")), (1, 3, 4))
        self.assertEqual(candidates(OVERVIEW, only(5, c3="quiet", c0="quiet")), (1,))
        self.assertEqual(candidates(OVERVIEW, only(5, c4="quiet", c1="alarm")), (0, 1, 2))

    def test_without_quiet_ones_all_are(self):
        for net in NETS:
            self.assertEqual(candidates(net, ("unseen",) * len(net)), tuple(range(len(net))))
            self.assertEqual(candidates(net, ("alarm",) * len(net)), tuple(range(len(net))))

    def test_all_quiet(self):
        for net in NETS:
            self.assertEqual(candidates(net, ("quiet",) * len(net)), ())

    def test_also_without_an_explanation(self):
        self.assertEqual(candidates(ROW, only(8, c2="quiet", c5="alarm")), (0, 1))
        self.assertEqual(candidates(RING, only(8, c2="quiet", c5="alarm")), ())


class VerdictTest(unittest.TestCase):
    """[22]"""

    def test_the_greatest_explanation(self):
        self.assertEqual(verdict(OVERVIEW, only(5, c1="alarm")), ("broken", (0, 1, 2, 3, 4)))
        self.assertEqual(verdict(ROW, only(8, c2="alarm", c5="quiet")), ("broken", (0, 1, 2, 3, 4)))
        self.assertEqual(verdict(ALONE, ("alarm",)), ("broken", (0,)))
        self.assertEqual(verdict(ALONE, ("quiet",)), ("broken", ()))
        self.assertEqual(verdict(ALONE, ("unseen",)), ("broken", (0,)))
        self.assertEqual(verdict(SIDE_BY_SIDE, ("unseen",) * 8), ("broken", ALL))

    def test_the_least_alarm_and_the_least_quiet_ones(self):
        self.assertEqual(verdict(ROW, only(8, c2="quiet", c4="quiet", c5="alarm", c7="alarm")), ("none", 5, (2, 2, 2)))
        self.assertEqual(verdict(RING, only(8, c3="alarm", c5="quiet", c6="quiet")), ("none", 3, (5,) * 8))
        net = ((1, 2), (), (), (1,), (0, 2))
        report = ("alarm", "quiet", "unseen", "quiet", "quiet")
        self.assertEqual(verdict(net, report), ("none", 0, (4, 1, 4)))

    def test_an_alarm_that_is_explained_is_not_named(self):
        net = ((), (2,), (), (2,))
        self.assertEqual(verdict(net, ("alarm", "quiet", "alarm", "unseen")), ("none", 2, (1,)))

    def test_what_shows_a_verdict(self):
        report = only(8, c2="quiet", c4="quiet", c5="alarm", c7="alarm")
        for quiets in ((2, 2, 2), (4, 4, 4), (2, 4, 2)):
            self.assertIs(shows_verdict(ROW, report, ("none", 5, quiets)), True)
        self.assertIs(shows_verdict(ROW, report, ("none", 7, (4,))), True)
        for quiets in ((2, 2), (2, 2, 2, 2), (2, 5, 2), (2, 3, 2), (), [2, 2, 2], (2, 2, "2")):
            self.assertIs(shows_verdict(ROW, report, ("none", 5, quiets)), False)
        for alarm in (0, 2, 6, -1, 8, True, None, "5", (5,)):
            self.assertIs(shows_verdict(ROW, report, ("none", alarm, (2, 2, 2))), False)
        self.assertIs(shows_verdict(ROW, report, ("broken", (0, 1))), False)

    def test_what_shows_an_explanation(self):
        report = only(8, c2="alarm", c5="quiet")
        for broken in ((0, 1, 2, 3, 4), (2,), (3, 4), (0, 4)):
            self.assertIs(shows_verdict(ROW, report, ("broken", broken)), True)
        for broken in ((), (0, 1), (2, 5), (7,), (4, 3), (3, 3), [2], (2, 8), (2, -1), (2, None), 2, None):
            self.assertIs(shows_verdict(ROW, report, ("broken", broken)), False)
        for thing in (["broken", (2,)], ("Broken", (2,)), ("broken", (2,), ()), ("broken",), ("whole", (2,))):
            self.assertIs(shows_verdict(ROW, report, thing), False)

    def test_bools_are_no_integers(self):
        self.assertIs(shows_verdict(ALONE, ("alarm",), ("broken", (0,))), True)
        self.assertIs(shows_verdict(ALONE, ("alarm",), ("broken", (False,))), False)
        net = ((1,), ())
        report = ("quiet", "alarm")
        self.assertIs(shows_verdict(net, report, ("none", 1, (0,))), True)
        self.assertIs(shows_verdict(net, report, ("none", True, (0,))), False)
        self.assertIs(shows_verdict(net, report, ("none", 1, (False,))), False)

    def test_odd_values(self):
        for net, report in ((ROW, only(8, c2="alarm")), (RING, only(8, c2="alarm", c3="quiet"))):
            for thing in ODD:
                with self.subTest(thing=repr(thing)[:80]):
                    self.assertIs(shows_verdict(net, report, thing), False)


class ExplanationsTest(unittest.TestCase):
    """[23]"""

    def test_explanations_ascend(self):
        report = ("quiet", "alarm", "unseen", "quiet", "unseen")
        self.assertEqual(list(explanations(OVERVIEW, report)), [(1,)])
        report = ("quiet", "unseen", "unseen", "alarm", "unseen")
        self.assertEqual(list(explanations(OVERVIEW, report)), [(1, 3), (1, 3, 4), (1, 4), (3,), (3, 4), (4,)])

    def test_it_is_a_generator(self):
        for report in (("alarm",), ("quiet",), ("unseen",)):
            self.assertTrue(inspect.isgenerator(explanations(ALONE, report)))

    def test_one_component_alone(self):
        self.assertEqual(list(explanations(ALONE, ("unseen",))), [(), (0,)])
        self.assertEqual(list(explanations(ALONE, ("alarm",))), [(0,)])
        self.assertEqual(list(explanations(ALONE, ("quiet",))), [()])

    def test_nothing_watched(self):
        for net in NETS:
            report = ("unseen",) * len(net)
            self.assertEqual(list(explanations(net, report)), second.all_sets(len(net)))
            self.assertEqual(how_many(net, report), 2 ** len(net))

    def test_everything_watched(self):
        self.assertEqual(how_many(SIDE_BY_SIDE, ("alarm",) * 8), 1)
        self.assertEqual(how_many(EVERYTHING, ("alarm",) * 8), 255)
        self.assertEqual(how_many(RING, ("quiet",) * 8), 1)
        self.assertEqual(how_many(ROW, ("alarm",) * 8), 128)

    def test_no_explanation(self):
        report = only(8, c2="quiet", c5="alarm")
        self.assertEqual(list(explanations(ROW, report)), [])
        self.assertEqual(how_many(ROW, report), 0)

    def test_two_generators_at_once(self):
        report = ("quiet", "unseen", "unseen", "alarm", "unseen")
        one, other = explanations(OVERVIEW, report), explanations(OVERVIEW, report)
        self.assertEqual([(a, b) for a, b in zip(one, other)], [(a, a) for a in explanations(OVERVIEW, report)])


if __name__ == "__main__":
    unittest.main()
