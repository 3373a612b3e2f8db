"""[50] [51] [52] Advice: halves, the next watch, what says nothing new, and groups."""

import unittest

from rootalarms.advice import core, groups, halves, needless, next_watch
from rootalarms.certain import expected
from rootalarms.reports import explanations, how_many

from tests.values import ALONE, EVERYTHING, NETS, OVERVIEW, RING, ROW, SIDE_BY_SIDE, TWO_RINGS

ALL = tuple(range(8))
UNSEEN = ("unseen",) * 8
NONE = ("quiet", "unseen", "alarm", "unseen", "unseen")


class HalvesTest(unittest.TestCase):
    """[50]"""

    def test_halves(self):
        report = ("quiet", "alarm", "unseen", "unseen", "unseen")
        self.assertEqual([halves(OVERVIEW, report, c) for c in range(5)], [(0, 7), (7, 0), (0, 7), (6, 1), (6, 1)])
        self.assertEqual([halves(ROW, UNSEEN, c) for c in (0, 6, 7)], [(255, 1), (192, 64), (128, 128)])

    def test_a_watched_component_too(self):
        self.assertEqual(halves(SIDE_BY_SIDE, ("alarm", "quiet") + UNSEEN[2:], 0), (64, 0))
        self.assertEqual(halves(SIDE_BY_SIDE, ("alarm", "quiet") + UNSEEN[2:], 1), (0, 64))

    def test_without_an_explanation(self):
        for component in range(5):
            self.assertEqual(halves(OVERVIEW, NONE, component), (0, 0))

    def test_one_component_alone(self):
        found = [halves(ALONE, (word,), 0) for word in ("alarm", "quiet", "unseen")]
        self.assertEqual(found, [(1, 0), (0, 1), (1, 1)])

    def test_they_add_up_to_all_explanations(self):
        for net in NETS:
            report = ("alarm",) + ("unseen",) * (len(net) - 1)
            for component in range(len(net)):
                self.assertEqual(sum(halves(net, report, component)), how_many(net, report))


class NextWatchTest(unittest.TestCase):
    """[50]"""

    def test_next_watch(self):
        self.assertEqual(next_watch(OVERVIEW, ("quiet", "alarm", "unseen", "unseen", "unseen")), 3)
        self.assertEqual(next_watch(ROW, UNSEEN), 7)
        self.assertEqual(next_watch(ROW, UNSEEN[:7] + ("quiet",)), 6)
        self.assertEqual(next_watch(ROW, ("alarm",) + UNSEEN[1:]), 7)

    def test_the_least_of_several(self):
        self.assertEqual(next_watch(SIDE_BY_SIDE, UNSEEN), 0)
        self.assertEqual(next_watch(SIDE_BY_SIDE, ("quiet", "alarm") + UNSEEN[2:]), 2)
        self.assertEqual(next_watch(RING, UNSEEN), 0)

    def test_only_what_is_open(self):
        # 2 is sure to be quiet, 0 and 1 are watched.
        self.assertEqual(next_watch(((2,), (3,), (), ()), ("quiet", "alarm", "unseen", "unseen")), 3)
        self.assertIsNone(next_watch(RING, ("alarm",) + UNSEEN[1:]))
        self.assertIsNone(next_watch(RING, ("quiet",) + UNSEEN[1:]))

    def test_everything_watched(self):
        for net in NETS:
            self.assertIsNone(next_watch(net, ("alarm",) * len(net)))
            self.assertIsNone(next_watch(net, ("quiet",) * len(net)))

    def test_without_an_explanation(self):
        self.assertIsNone(next_watch(OVERVIEW, NONE))

    def test_one_component_alone(self):
        self.assertEqual([next_watch(ALONE, (word,)) for word in ("alarm", "quiet", "unseen")], [None, None, 0])

    def test_it_is_unseen_and_open(self):
        for net in NETS:
            report = ("unseen",) * len(net)
            found = next_watch(net, report)
            self.assertEqual(expected(net, report)[found], "open")


class NeedlessTest(unittest.TestCase):
    """[51]"""

    def test_quiet_ones(self):
        self.assertEqual(needless(ROW, ("unseen", "quiet", "quiet", "unseen", "quiet") + UNSEEN[5:]), (2, 4))
        self.assertEqual(needless(ROW, ("quiet",) * 8), ALL[1:])
        self.assertEqual(needless(SIDE_BY_SIDE, ("quiet",) * 8), ())

    def test_alarming_ones(self):
        self.assertEqual(needless(ROW, ("unseen", "alarm", "alarm", "unseen", "alarm") + UNSEEN[5:]), (1, 2))
        self.assertEqual(needless(ROW, ("alarm",) * 8), ALL[:7])
        self.assertEqual(needless(SIDE_BY_SIDE, ("alarm",) * 8), ())

    def test_each_taken_alone(self):
        self.assertEqual(needless(RING, ("alarm", "alarm") + UNSEEN[2:]), (0, 1))
        self.assertEqual(needless(RING, ("quiet",) * 8), ALL)
        self.assertEqual(needless(EVERYTHING, ("alarm",) * 8), ALL)
        # Without both of them there are more explanations than one.
        self.assertEqual((how_many(RING, ("quiet",) * 8), how_many(RING, UNSEEN)), (1, 256))

    def test_candidates_count_and_not_what_is_in_reach(self):
        net = ((2, 3), (2, 4), (), (), ())
        self.assertEqual(needless(net, ("alarm", "alarm", "unseen", "unseen", "unseen")), ())
        # With 3 and 4 whole both say that 2 is broken, or 0, or 1.
        cleared = ("alarm", "alarm", "unseen", "quiet", "quiet")
        self.assertEqual(needless(((1, 2, 3), (0, 2, 4), (), (), ()), cleared), (0, 1))

    def test_nothing_watched(self):
        for net in NETS:
            self.assertEqual(needless(net, ("unseen",) * len(net)), ())

    def test_one_component_alone(self):
        self.assertEqual([needless(ALONE, (word,)) for word in ("alarm", "quiet", "unseen")], [(), (), ()])

    def test_without_an_explanation(self):
        self.assertIsNone(needless(OVERVIEW, NONE))


class CoreTest(unittest.TestCase):
    """[51]"""

    def test_core(self):
        self.assertEqual(core(ROW, ("quiet",) * 8), ("quiet",) + UNSEEN[1:])
        self.assertEqual(core(ROW, ("alarm",) * 8), UNSEEN[:7] + ("alarm",))
        report = ("alarm", "alarm", "alarm", "unseen", "quiet", "quiet", "unseen", "quiet")
        self.assertEqual(core(ROW, report), ("unseen", "unseen", "alarm", "unseen", "quiet") + UNSEEN[5:])

    def test_the_first_of_several(self):
        self.assertEqual(core(RING, ("alarm",) * 8), ("alarm",) + UNSEEN[1:])
        self.assertEqual(core(RING, ("unseen",) + ("quiet",) * 7), ("unseen", "quiet") + UNSEEN[2:])
        report = ("alarm", "alarm", "quiet", "quiet", "unseen", "unseen")
        self.assertEqual(core(TWO_RINGS, report), ("alarm", "unseen", "quiet") + ("unseen",) * 3)

    def test_all_are_needed(self):
        for report in (("alarm",) * 8, ("quiet",) * 8, ("alarm", "quiet", "unseen", "alarm") * 2):
            self.assertEqual(core(SIDE_BY_SIDE, report), report)

    def test_nothing_watched(self):
        for net in NETS:
            self.assertEqual(core(net, ("unseen",) * len(net)), ("unseen",) * len(net))

    def test_without_an_explanation(self):
        self.assertIsNone(core(OVERVIEW, NONE))

    def test_it_has_the_same_explanations_and_no_needless_ones(self):
        for net in NETS:
            for report in (("alarm",) * len(net), ("quiet",) * len(net)):
                found = core(net, report)
                self.assertEqual(list(explanations(net, found)), list(explanations(net, report)))
                self.assertEqual(needless(net, found), ())
                self.assertEqual(core(net, found), found)


class GroupsTest(unittest.TestCase):
    """[52]"""

    def test_groups(self):
        self.assertEqual(groups(OVERVIEW, (0, 1)), ((0,), (1, 3, 4), (2,)))
        self.assertEqual(groups(OVERVIEW, (4,)), ((0, 1, 2), (3, 4)))
        self.assertEqual(groups(ROW, (0, 3, 5)), ((0, 1, 2), (3, 4), (5, 6, 7)))

    def test_nothing_watched(self):
        for net in NETS:
            self.assertEqual(groups(net, ()), (tuple(range(len(net))),))

    def test_everything_watched(self):
        self.assertEqual(groups(RING, ALL), (ALL,))
        self.assertEqual(groups(EVERYTHING, ALL), (ALL,))
        self.assertEqual(groups(SIDE_BY_SIDE, ALL), tuple((c,) for c in ALL))
        self.assertEqual(groups(ROW, ALL), tuple((c,) for c in ALL))
        self.assertEqual(groups(TWO_RINGS, tuple(range(6))), ((0, 1), (2, 3), (4,), (5,)))

    def test_those_that_nobody_hears(self):
        self.assertEqual(groups(SIDE_BY_SIDE, (2, 5)), ((0, 1, 3, 4, 6, 7), (2,), (5,)))

    def test_one_component_alone(self):
        self.assertEqual((groups(ALONE, ()), groups(ALONE, (0,))), (((0,),), ((0,),)))


if __name__ == "__main__":
    unittest.main()
