"""[40] Few broken ones."""

import unittest

from rootalarms.few import apart, fewest

from tests.values import ALONE, EVERYTHING, NETS, OVERVIEW, RING, ROW, SIDE_BY_SIDE

ALL = tuple(range(8))
# 0, 1 and 2 need two of 3, 4 and 5 each: two broken ones explain all three, but no two of them are apart.
TRIANGLE = ((3, 4), (4, 5), (3, 5), (), (), ())
TRIANGLE_REPORT = ("alarm",) * 3 + ("unseen",) * 3


class FewestTest(unittest.TestCase):
    def test_fewest(self):
        self.assertEqual(fewest(OVERVIEW, ("quiet", "alarm", "unseen", "unseen", "unseen")), (1,))
        self.assertEqual(fewest(OVERVIEW, ("alarm", "alarm", "unseen", "unseen", "alarm")), (0, 3))
        self.assertEqual(fewest(OVERVIEW, ("alarm", "alarm", "unseen", "quiet", "unseen")), (2,))

    def test_the_first_of_several_smallest(self):
        self.assertEqual(fewest(RING, ("unseen",) * 3 + ("alarm",) + ("unseen",) * 4), (0,))
        self.assertEqual(fewest(TRIANGLE, TRIANGLE_REPORT), (0, 5))
        self.assertEqual(fewest(((1, 2), (), ()), ("alarm", "unseen", "unseen")), (0,))

    def test_nothing_is_broken(self):
        for net in NETS:
            self.assertEqual(fewest(net, ("unseen",) * len(net)), ())
            self.assertEqual(fewest(net, ("quiet",) * len(net)), ())

    def test_everything_watched(self):
        self.assertEqual(fewest(SIDE_BY_SIDE, ("alarm",) * 8), ALL)
        self.assertEqual(fewest(EVERYTHING, ("alarm",) * 8), (0,))
        self.assertEqual(fewest(ROW, ("alarm",) * 8), (7,))
        self.assertEqual(fewest(ALONE, ("alarm",)), (0,))

    def test_no_explanation(self):
        self.assertIsNone(fewest(OVERVIEW, ("quiet", "unseen", "alarm", "unseen", "unseen")))
        self.assertIsNone(fewest(RING, ("alarm", "quiet") + ("unseen",) * 6))


class ApartTest(unittest.TestCase):
    def test_apart(self):
        self.assertEqual(apart(SIDE_BY_SIDE, ("alarm",) * 8), ALL)
        self.assertEqual(apart(SIDE_BY_SIDE, ("alarm", "quiet") * 4), (0, 2, 4, 6))
        self.assertEqual(apart(OVERVIEW, ("alarm", "alarm", "unseen", "unseen", "alarm")), (0, 4))

    def test_no_alarm(self):
        for net in NETS:
            self.assertEqual(apart(net, ("unseen",) * len(net)), ())
            self.assertEqual(apart(net, ("quiet",) * len(net)), ())

    def test_the_first_of_several_largest(self):
        self.assertEqual(apart(EVERYTHING, ("unseen", "unseen", "alarm") + ("alarm",) * 5), (2,))
        self.assertEqual(apart(ROW, ("alarm",) * 8), (0,))
        # 0 shares a candidate with both others, which are apart.
        self.assertEqual(apart(((1, 2), (), ()), ("alarm",) * 3), (1, 2))

    def test_only_candidates_are_shared(self):
        net = ((2,), (2,), (), (2,))
        self.assertEqual(apart(net, ("alarm", "alarm", "unseen", "unseen")), (0,))
        self.assertEqual(apart(net, ("alarm", "alarm", "quiet", "unseen")), (0, 1))

    def test_there_may_be_no_explanation_with_as_few(self):
        self.assertEqual(apart(TRIANGLE, TRIANGLE_REPORT), (0,))
        self.assertEqual(len(fewest(TRIANGLE, TRIANGLE_REPORT)), 2)

    def test_no_explanation(self):
        self.assertIsNone(apart(OVERVIEW, ("quiet", "unseen", "alarm", "unseen", "unseen")))
        self.assertIsNone(apart(RING, ("alarm", "quiet") + ("unseen",) * 6))

    def test_one_component_alone(self):
        self.assertEqual(apart(ALONE, ("alarm",)), (0,))
        self.assertEqual(apart(ALONE, ("quiet",)), ())


if __name__ == "__main__":
    unittest.main()
