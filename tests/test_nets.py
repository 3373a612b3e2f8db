"""[10] [11] [12] Nets, sets, reach, above, rings and alarms."""

import unittest

from rootalarms.nets import above, alarms, is_net, is_set, reach, rings

from tests import second
from tests.values import (
    ALONE, EVERYTHING, NETS, ODD, OVERVIEW, RING, ROW, SIDE_BY_SIDE, TWO_RINGS, WRONG_NETS, WRONG_SETS,
)

ALL = tuple(range(8))


class IsNetTest(unittest.TestCase):
    """[10]"""

    def test_nets(self):
        for net in NETS:
            self.assertIs(is_net(net), True)

    def test_one_to_eight_components(self):
        for many in range(12):
            self.assertIs(is_net(((),) * many), 1 <= many <= 8)

    def test_all_nets_of_up_to_three_components(self):
        for many in (1, 2, 3):
            self.assertEqual(len(second.all_nets(many)), 2 ** (many * (many - 1)))
            for net in second.all_nets(many):
                self.assertIs(is_net(net), True)

    def test_no_nets(self):
        for thing in WRONG_NETS:
            with self.subTest(thing=repr(thing)[:80]):
                self.assertIs(is_net(thing), False)

    def test_odd_values(self):
        for thing in ODD:
            with self.subTest(thing=repr(thing)[:80]):
                self.assertIs(is_net(thing), repr(thing) in ("((), ())", "((),)"))

    def test_a_row_may_have_all_other_components_but_not_its_own(self):
        self.assertIs(is_net(((1, 2), (0, 2), (0, 1))), True)
        self.assertIs(is_net(((1, 2), (0, 1, 2), (0, 1))), False)
        self.assertIs(is_net(((1, 2), (0, 2), (0, 1, 3))), False)
        self.assertIs(is_net(((2, 1), (0, 2), (0, 1))), False)


class IsSetTest(unittest.TestCase):
    """[10]"""

    def test_all_sets(self):
        for net in NETS:
            for chosen in second.all_sets(len(net)):
                self.assertIs(is_set(net, chosen), True)

    def test_no_sets(self):
        for thing in WRONG_SETS:
            with self.subTest(thing=thing):
                self.assertIs(is_set(((1,), ()), thing), False)

    def test_only_components_of_this_net(self):
        self.assertIs(is_set(ALONE, (0,)), True)
        self.assertIs(is_set(ALONE, (1,)), False)
        self.assertIs(is_set(ALONE, ()), True)
        self.assertIs(is_set(ROW, ALL), True)
        self.assertIs(is_set(ROW, ALL + (8,)), False)

    def test_odd_values(self):
        for thing in ODD:
            with self.subTest(thing=repr(thing)[:80]):
                self.assertIs(is_set(ROW, thing), repr(thing) in ("()", "(0,)"))


class ReachTest(unittest.TestCase):
    """[11]"""

    def test_reach(self):
        self.assertEqual([reach(OVERVIEW, c) for c in range(5)], [(0, 2), (1, 2, 3, 4), (2,), (3, 4), (3, 4)])

    def test_above(self):
        self.assertEqual([above(OVERVIEW, c) for c in range(5)], [(0,), (1,), (0, 1, 2), (1, 3, 4), (1, 3, 4)])

    def test_one_component_alone(self):
        self.assertEqual((reach(ALONE, 0), above(ALONE, 0)), ((0,), (0,)))

    def test_a_row(self):
        for component in range(8):
            self.assertEqual(reach(ROW, component), ALL[component:])
            self.assertEqual(above(ROW, component), ALL[:component + 1])

    def test_a_row_whose_numbers_fall(self):
        falling = ((), (0,), (1,), (2,))
        self.assertEqual(reach(falling, 3), (0, 1, 2, 3))
        self.assertEqual(above(falling, 0), (0, 1, 2, 3))

    def test_a_ring_and_all_on_all(self):
        for component in range(8):
            for net in (RING, EVERYTHING):
                self.assertEqual(reach(net, component), ALL)
                self.assertEqual(above(net, component), ALL)

    def test_side_by_side(self):
        for component in range(8):
            self.assertEqual(reach(SIDE_BY_SIDE, component), (component,))
            self.assertEqual(above(SIDE_BY_SIDE, component), (component,))


class RingsTest(unittest.TestCase):
    """[11]"""

    def test_rings(self):
        self.assertEqual(rings(OVERVIEW), ((0,), (1,), (2,), (3, 4)))
        self.assertEqual(rings(TWO_RINGS), ((0, 1), (2, 3), (4,), (5,)))
        self.assertEqual(rings(ALONE), ((0,),))
        self.assertEqual(rings(ROW), tuple((c,) for c in range(8)))
        self.assertEqual(rings(SIDE_BY_SIDE), tuple((c,) for c in range(8)))
        self.assertEqual(rings(RING), (ALL,))
        self.assertEqual(rings(EVERYTHING), (ALL,))

    def test_rings_that_lie_between_one_another(self):
        self.assertEqual(rings(((2,), (3,), (0,), (1,))), ((0, 2), (1, 3)))
        self.assertEqual(rings(((3,), (2,), (1,), (0,))), ((0, 3), (1, 2)))


class AlarmsTest(unittest.TestCase):
    """[12]"""

    def test_alarms(self):
        self.assertEqual(alarms(OVERVIEW, (2,)), (0, 1, 2))
        self.assertEqual(alarms(OVERVIEW, (3,)), (1, 3, 4))
        self.assertEqual(alarms(OVERVIEW, (0, 1)), (0, 1))

    def test_nothing_broken(self):
        for net in NETS:
            self.assertEqual(alarms(net, ()), ())

    def test_all_broken(self):
        for net in NETS:
            everything = tuple(range(len(net)))
            self.assertEqual(alarms(net, everything), everything)

    def test_the_last_of_a_row_and_the_first(self):
        self.assertEqual(alarms(ROW, (7,)), ALL)
        self.assertEqual(alarms(ROW, (0,)), (0,))
        self.assertEqual(alarms(RING, (5,)), ALL)
        self.assertEqual(alarms(SIDE_BY_SIDE, (2, 5)), (2, 5))


if __name__ == "__main__":
    unittest.main()
