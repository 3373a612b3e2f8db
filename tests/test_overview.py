"""[1] The session of the overview, and that of the README."""

import doctest
import unittest
from pathlib import Path

from rootalarms.advice import next_watch
from rootalarms.certain import certain
from rootalarms.nets import alarms, reach
from rootalarms.reports import candidates, verdict

README = Path(__file__).resolve().parent.parent / "README.md"
NET = ((2,), (2, 3), (), (4,), (3,))


class OverviewTest(unittest.TestCase):
    def test_reach_and_alarms(self):
        self.assertEqual((reach(NET, 1), alarms(NET, (4,))), ((1, 2, 3, 4), (1, 3, 4)))

    def test_candidates_certain_and_next_watch(self):
        report = ("quiet", "alarm", "unseen", "unseen", "unseen")
        self.assertEqual(candidates(NET, report), (1, 3, 4))
        self.assertEqual(certain(NET, report), ("whole", "open", "whole", "open", "open"))
        self.assertEqual(next_watch(NET, report), 3)

    def test_verdicts(self):
        self.assertEqual(verdict(NET, ("quiet", "alarm", "unseen", "quiet", "quiet")), ("broken", (1,)))
        self.assertEqual(verdict(NET, ("quiet", "unseen", "alarm", "unseen", "unseen")), ("none", 2, (0,)))

    def test_the_session_of_the_readme(self):
        blocks = README.read_text("utf-8").split("```")[1::2]
        session = "\n".join(block for block in blocks if ">>>" in block)
        test = doctest.DocTestParser().get_doctest(session, {}, "README.md", str(README), 0)
        self.assertGreater(len(test.examples), 30)
        self.assertEqual(doctest.DocTestRunner().run(test).failed, 0)


if __name__ == "__main__":
    unittest.main()
