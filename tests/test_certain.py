"""[30] [31] What is certain, what is expected, and what shows it."""

import unittest

from rootalarms.certain import certain, expected, shows_witness, witness

from tests.values import ALONE, NETS, ODD, OVERVIEW, RING, ROW, SIDE_BY_SIDE

ALL = tuple(range(8))
# 0 needs 1 and 2, 3 needs 2, 4 needs 3: with 2 and 3 cleared, the alarm of 0 leaves 0 and 1.
NET = ((1, 2), (), (), (2,), (3,))


class CertainTest(unittest.TestCase):
    """[30]"""

    def test_certain(self):
        report = ("quiet", "alarm", "unseen", "quiet", "quiet")
        self.assertEqual(certain(OVERVIEW, report), ("whole", "broken", "whole", "whole", "whole"))
        self.assertEqual(certain(NET, ("alarm", "unseen", "unseen", "quiet", "unseen")),
                         ("open", "open", "whole", "whole", "open"))
        self.assertEqual(certain(NET, ("alarm", "quiet", "unseen", "quiet", "alarm")),
                         ("broken", "whole", "whole", "whole", "broken"))

    def test_expected(self):
        self.assertEqual(expected(NET, ("alarm", "unseen", "unseen", "quiet", "unseen")),
                         ("alarm", "open", "quiet", "quiet", "open"))
        self.assertEqual(expected(ROW, ("unseen", "alarm") + ("unseen",) * 5 + ("quiet",)),
                         ("alarm", "alarm") + ("open",) * 5 + ("quiet",))
        self.assertEqual(expected(OVERVIEW, ("unseen", "unseen", "unseen", "alarm", "unseen")),
                         ("open", "alarm", "open", "alarm", "alarm"))

    def test_nothing_watched(self):
        for net in NETS:
            many = len(net)
            self.assertEqual(certain(net, ("unseen",) * many), ("open",) * many)
            self.assertEqual(expected(net, ("unseen",) * many), ("open",) * many)

    def test_everything_quiet(self):
        for net in NETS:
            many = len(net)
            self.assertEqual(certain(net, ("quiet",) * many), ("whole",) * many)
            self.assertEqual(expected(net, ("quiet",) * many), ("quiet",) * many)

    def test_everything_alarms(self):
        self.assertEqual(certain(SIDE_BY_SIDE, ("alarm",) * 8), ("broken",) * 8)
        self.assertEqual(certain(RING, ("alarm",) * 8), ("open",) * 8)
        self.assertEqual(certain(ROW, ("alarm",) * 8), ("open",) * 7 + ("broken",))
        for net in NETS:
            self.assertEqual(expected(net, ("alarm",) * len(net)), ("alarm",) * len(net))

    def test_one_component_alone(self):
        for word, sure, told in (("alarm", "broken", "alarm"), ("quiet", "whole", "quiet"), ("unseen", "open", "open")):
            self.assertEqual(certain(ALONE, (word,)), (sure,))
            self.assertEqual(expected(ALONE, (word,)), (told,))

    def test_no_explanation(self):
        report = ("quiet", "unseen", "alarm", "unseen", "unseen")
        self.assertIsNone(certain(OVERVIEW, report))
        self.assertIsNone(expected(OVERVIEW, report))


class WitnessTest(unittest.TestCase):
    """[31]"""

    def test_witness(self):
        report = ("alarm", "unseen", "unseen", "quiet", "unseen")
        self.assertEqual(witness(NET, report, 0), ("open", (0, 1, 4), (1, 4)))
        self.assertEqual(witness(NET, report, 1), ("open", (0, 1, 4), (0, 4)))
        self.assertEqual(witness(NET, report, 2), ("whole", 3))
        self.assertEqual(witness(NET, report, 3), ("whole", 3))
        self.assertEqual(witness(NET, report, 4), ("open", (0, 1, 4), (0, 1)))

    def test_the_least_one(self):
        net = ((2,), (2,), (), (4,), (), (4,))
        report = ("alarm", "alarm", "alarm", "quiet", "unseen", "quiet")
        self.assertEqual(witness(net, report, 2), ("broken", 2))
        self.assertEqual(witness(net, report, 4), ("whole", 3))
        self.assertEqual(witness(net, report, 5), ("whole", 5))
        pair = ((1,), (0, 2), (), (1,))
        self.assertEqual(witness(pair, ("unseen", "unseen", "alarm", "alarm"), 2), ("broken", 2))
        split = ((2,), (2,), (), (0,), (1,))
        self.assertEqual(witness(split, ("unseen", "unseen", "quiet", "unseen", "alarm"), 2), ("whole", 2))

    def test_all_alarms_with_one_candidate_show_it(self):
        net = ((3, 4), (3, 4), (4,), (), ())
        report = ("alarm", "alarm", "quiet", "alarm", "unseen")
        self.assertEqual(witness(net, report, 3), ("broken", 3))
        self.assertIs(shows_witness(net, report, 3, ("broken", 3)), True)
        # 0 and 1 are candidates themselves, so their alarms do not show that 3 is broken.
        self.assertIs(shows_witness(net, report, 3, ("broken", 0)), False)
        ring = ((1,), (0, 2), (), (0,))
        self.assertIs(shows_witness(ring, ("alarm", "alarm", "unseen", "alarm"), 0, ("broken", 0)), False)

    def test_what_shows_whole(self):
        report = ("unseen", "quiet", "quiet", "unseen", "unseen", "unseen", "unseen", "unseen")
        self.assertEqual(witness(ROW, report, 5), ("whole", 1))
        self.assertIs(shows_witness(ROW, report, 5, ("whole", 1)), True)
        self.assertIs(shows_witness(ROW, report, 5, ("whole", 2)), True)
        self.assertIs(shows_witness(ROW, report, 1, ("whole", 2)), False)
        for thing in (0, 3, 5, 8, -1, True, None, (1,), [1], "1"):
            self.assertIs(shows_witness(ROW, report, 5, ("whole", thing)), False)
        for thing in (["whole", 1], ("whole",), ("whole", 1, 1), ("broken", 1), ("open", 1), (1, "whole")):
            self.assertIs(shows_witness(ROW, report, 5, thing), False)

    def test_what_shows_open(self):
        report = ("alarm",) + ("unseen",) * 7
        self.assertEqual(witness(ROW, report, 3), ("open", ALL, (0, 1, 2, 4, 5, 6, 7)))
        self.assertIs(shows_witness(ROW, report, 3, ("open", (3,), (5,))), True)
        self.assertIs(shows_witness(ROW, report, 3, ("open", (2, 3), (2, 5))), True)
        for one, other in (((5,), (3,)), ((3,), ()), ((), (3,)), ((3,), (3, 5)), ((5,), (5,)), ([3], (5,)),
                           ((3,), [5]), ((3,), 5), ((3,), None), ((3, 3), (5,)), ((4, 3), (5,)), ((3,), (8,))):
            self.assertIs(shows_witness(ROW, report, 3, ("open", one, other)), False)

    def test_bools_are_no_integers(self):
        net = ((), (0,))
        self.assertIs(shows_witness(net, ("alarm", "unseen"), 0, ("broken", 0)), True)
        self.assertIs(shows_witness(net, ("alarm", "unseen"), 0, ("broken", False)), False)
        self.assertIs(shows_witness(net, ("unseen", "quiet"), 0, ("whole", 1)), True)
        self.assertIs(shows_witness(net, ("unseen", "quiet"), 0, ("whole", True)), False)
        self.assertIs(shows_witness(net, ("unseen", "alarm"), 0, ("open", (0,), (1,))), True)
        self.assertIs(shows_witness(net, ("unseen", "alarm"), 0, ("open", (False,), (1,))), False)
        self.assertIs(shows_witness(net, ("unseen", "alarm"), 0, ("open", (0,), (True,))), False)

    def test_without_an_explanation(self):
        report = ("quiet", "unseen", "alarm", "unseen", "unseen")
        for component in range(5):
            self.assertIsNone(witness(OVERVIEW, report, component))
            for thing in (("whole", 0), ("broken", 2), ("open", (1,), ()), None, ("none", 2, (0,))):
                self.assertIs(shows_witness(OVERVIEW, report, component, thing), False)

    def test_odd_values(self):
        report = ("alarm",) + ("unseen",) * 6 + ("quiet",)
        for component in range(8):
            for thing in ODD:
                with self.subTest(thing=repr(thing)[:80]):
                    self.assertIs(shows_witness(ROW, report, component, thing), False)


if __name__ == "__main__":
    unittest.main()
