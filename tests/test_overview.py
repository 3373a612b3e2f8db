"""[1] The overview's session, as far as the files that there are answer it."""

import unittest

from rootalarms.certain import certain
from rootalarms.nets import alarms, reach
from rootalarms.reports import candidates, verdict

NET = ((2,), (2, 3), (), (4,), (3,))


class OverviewTest(unittest.TestCase):
    def test_reach_and_alarms(self):
        self.assertEqual((reach(NET, 1), alarms(NET, (4,))), ((1, 2, 3, 4), (1, 3, 4)))

    def test_candidates_and_certain(self):
        report = ("quiet", "alarm", "unseen", "unseen", "unseen")
        self.assertEqual(candidates(NET, report), (1, 3, 4))
        self.assertEqual(certain(NET, report), ("whole", "open", "whole", "open", "open"))

    def test_verdicts(self):
        self.assertEqual(verdict(NET, ("quiet", "alarm", "unseen", "quiet", "quiet")), ("broken", (1,)))
        self.assertEqual(verdict(NET, ("quiet", "unseen", "alarm", "unseen", "unseen")), ("none", 2, (0,)))


if __name__ == "__main__":
    unittest.main()
