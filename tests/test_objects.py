"""[60] Nets as objects."""

import unittest
from copy import deepcopy

from rootalarms import nets
from rootalarms.errors import ComponentError, LimitError, NetError, NumberError, SetError, TextError
from rootalarms.objects import Net
from rootalarms.watches import Watch

from tests import second
from tests.values import (
    ALONE, EVERYTHING, NETS, ODD, OBJECTS, OVERVIEW, RING, ROW, SIDE_BY_SIDE, TWO_RINGS, WRONG_COMPONENTS,
    WRONG_NETS, WRONG_NUMBERS, WRONG_SETS, some_nets,
)


class NetTest(unittest.TestCase):
    def test_needs_and_rings(self):
        for net in NETS:
            self.assertEqual(repr(Net(*net).needs), repr(net))
            self.assertEqual(Net(*net).rings, second.rings(net))

    def test_what_is_no_net(self):
        for thing in WRONG_NETS:
            if isinstance(thing, tuple):
                with self.subTest(thing=repr(thing)[:80]), self.assertRaises(NetError):
                    Net(*thing)
        for arguments in ((), (((),),), (None,), ((), ()) * 5, ((1,), (True,)), ([], ()), ((0,),), (Net(()),)):
            with self.subTest(arguments=arguments), self.assertRaises(NetError):
                Net(*arguments)

    def test_properties_cannot_be_assigned(self):
        net = Net(*OVERVIEW)
        for name in ("needs", "rings"):
            with self.assertRaises(AttributeError):
                setattr(net, name, ((),))
        self.assertEqual(net.needs, OVERVIEW)

    def test_call(self):
        for net in NETS:
            for broken in second.all_sets(len(net)):
                self.assertEqual(Net(*net)(broken), second.alarms(net, broken))

    def test_call_with_what_is_no_set(self):
        net = Net((1,), ())
        for thing in WRONG_SETS:
            with self.subTest(thing=repr(thing)[:80]), self.assertRaises(SetError):
                net(thing)

    def test_item(self):
        for net in NETS:
            for component in range(len(net)):
                self.assertEqual(Net(*net)[component], second.reach(net, component))

    def test_item_with_what_is_no_component(self):
        net = Net((1,), ())
        for thing in WRONG_COMPONENTS:
            with self.subTest(thing=repr(thing)[:80]), self.assertRaises(ComponentError):
                net[thing]
        with self.assertRaises(ComponentError):
            net[0:1]

    def test_len_and_in(self):
        for net in NETS:
            found = Net(*net)
            self.assertEqual(len(found), len(net))
            self.assertEqual([c for c in range(-2, 12) if c in found], list(range(len(net))))
        for thing in ODD:
            with self.subTest(thing=repr(thing)[:80]):
                self.assertIs(thing in Net((1,), ()), repr(thing) in ("0", "1"))
                self.assertIs(thing in Net(*ROW), repr(thing) in ("0", "1"))

    def test_it_is_not_iterated_over(self):
        with self.assertRaises(TypeError):
            list(Net(()))

    def test_repr(self):
        self.assertEqual(repr(Net(*OVERVIEW)), "Net(5 components)")
        self.assertEqual(repr(Net(())), "Net(1 components)")
        self.assertEqual(repr(Net(*ROW)), "Net(8 components)")

    def test_it_does_not_change(self):
        for needs in NETS:
            net = Net(*needs)
            before = (net.needs, net.rings, net.text(), repr(net), len(net))
            net(()), net[0], -net, net == Net(()), 0 in net
            for wrong in (lambda: net((9,)), lambda: net[9], lambda: net + None, lambda: net + Net(*ROW)):
                with self.assertRaises((SetError, ComponentError, NetError, LimitError)):
                    wrong()
            self.assertEqual((net.needs, net.rings, net.text(), repr(net), len(net)), before)


class EqualTest(unittest.TestCase):
    def test_equal_needs(self):
        found = [Net(*net) for net in NETS]
        for a, one in enumerate(found):
            for b, other in enumerate(found):
                self.assertIs(one == other, a == b)
                self.assertIs(one != other, a != b)
            self.assertIs(one == Net(*NETS[a]), True)
            self.assertIs(one == deepcopy(one), True)

    def test_rings_that_are_the_same_do_not_make_nets_equal(self):
        self.assertIs(Net((1,), (0,), ()) == Net((1,), (0,), (0,)), False)

    def test_equal_to_nothing_else(self):
        net = Net((1,), ())
        for thing in ODD + (((1,), ()), [(1,), ()], "0: 1\n1:\n", Watch(net)):
            with self.subTest(thing=repr(thing)[:80]):
                wanted = isinstance(thing, Net) and thing.needs == ((1,), ())
                self.assertIs(net == thing, wanted)
                self.assertIs(thing == net, wanted)
                self.assertIs(net != thing, not wanted)


class PlusTest(unittest.TestCase):
    def test_plus(self):
        self.assertEqual((Net((1,), ()) + Net((), (0,))).needs, ((1,), (), (), (2,)))
        self.assertEqual((Net(()) + Net(())).needs, ((), ()))
        self.assertEqual((Net(*OVERVIEW) + Net((1, 2), (), (0,))).needs, OVERVIEW + ((6, 7), (), (5,)))
        self.assertEqual((Net((1,), (0,)) + Net((1,), (0,))).rings, ((0, 1), (2, 3)))

    def test_plus_leaves_both_as_they_are(self):
        one, other = Net((1,), ()), Net((), (0,))
        one + other
        self.assertEqual((one.needs, other.needs), (((1,), ()), ((), (0,))))

    def test_up_to_eight_components(self):
        for one in range(1, 9):
            for other in range(1, 9):
                left, right = Net(*((),) * one), Net(*((),) * other)
                if one + other <= 8:
                    self.assertEqual(len(left + right), one + other)
                    continue
                with self.assertRaises(LimitError) as caught:
                    left + right
                self.assertEqual((caught.exception.amount, caught.exception.limit), (one + other, 8))

    def test_plus_what_is_no_net(self):
        for net in (Net(()), Net(*ROW)):
            for thing in [thing for thing in ODD if not isinstance(thing, Net)]:
                with self.subTest(thing=repr(thing)[:80]), self.assertRaises(NetError):
                    net + thing


class MinusTest(unittest.TestCase):
    def test_minus(self):
        self.assertEqual((-Net(*OVERVIEW)).needs, ((), (), (0, 1), (1, 4), (3,)))
        self.assertEqual((-Net(*ROW)).needs, ((), (0,), (1,), (2,), (3,), (4,), (5,), (6,)))
        for net in (ALONE, SIDE_BY_SIDE, EVERYTHING):
            self.assertEqual((-Net(*net)).needs, net)

    def test_twice_is_the_net_itself_and_reach_is_above(self):
        for net in NETS + tuple(some_nets(60, 6, 20)):
            self.assertEqual(-(-Net(*net)), Net(*net))
            self.assertEqual((-Net(*net)).rings, Net(*net).rings)
            for component in range(len(net)):
                self.assertEqual((-Net(*net))[component], nets.above(net, component))


class RingTest(unittest.TestCase):
    def test_ring(self):
        self.assertEqual(Net.ring(1).needs, ALONE)
        self.assertEqual(Net.ring(2).needs, ((1,), (0,)))
        self.assertEqual(Net.ring(3).needs, ((1,), (2,), (0,)))
        self.assertEqual(Net.ring(8).needs, RING)
        for many in range(1, 9):
            self.assertEqual(Net.ring(many).rings, (tuple(range(many)),))

    def test_wrong_numbers(self):
        for many in WRONG_NUMBERS + (0,):
            with self.subTest(many=repr(many)[:80]), self.assertRaises(NumberError):
                Net.ring(many)

    def test_off_an_object(self):
        self.assertEqual(Net(()).ring(2), Net((1,), (0,)))
        self.assertEqual(Net(()).read("0: 1\n1: 0\n"), Net((1,), (0,)))


class TextTest(unittest.TestCase):
    def test_text(self):
        self.assertEqual(Net(*OVERVIEW).text(), "0: 2\n1: 2 3\n2:\n3: 4\n4: 3\n")
        self.assertEqual(Net(()).text(), "0:\n")
        self.assertEqual(Net((1, 2), (), (0, 1)).text(), "0: 1 2\n1:\n2: 0 1\n")

    def test_read(self):
        for net in NETS + tuple(second.all_nets(3)) + tuple(some_nets(61, 7, 20)):
            text = second.text(net)
            self.assertEqual(Net(*net).text(), text)
            self.assertEqual(repr(Net.read(text).needs), repr(net))

    def test_read_what_is_no_text(self):
        for thing in ODD:
            with self.subTest(thing=repr(thing)[:80]), self.assertRaises(TextError):
                Net.read(thing)
        for thing in (["0:\n"], ("0:\n",), b"0:\n", {"0:\n": 1}, Net(()), OBJECTS):
            with self.subTest(thing=repr(thing)[:80]), self.assertRaises(TextError):
                Net.read(thing)

    def test_texts_that_are_those_of_no_net(self):
        for text in (
            "", "\n", "0", "0:", "0:\n\n", "\n0:\n", " 0:\n", "0: \n", "0 :\n", "0:\n1:", "00:\n", "+0:\n", "1:\n",
            "0: 0\n", "0: 1\n", "0: 1\n1:\n2: 3\n", "1:\n0:\n", "0:\n0:\n", "0:\n2:\n", "0: 2 1\n1:\n2:\n",
            "0: 1 1\n1:\n", "0:  1\n1:\n", "0:1\n1:\n", "0: 01\n1:\n", "0: +1\n1:\n", "0: -1\n1:\n", "0: 1 \n1:\n",
            "0: 1,2\n1:\n2:\n", "0: 1.0\n1:\n", "0: 1\r\n1:\n", "0: 1\n1:\n0:\n", "0:\t1\n1:\n", "0: one\n1:\n",
            "0: 12\n1:\n2:\n", "0:\n1:\n2:\n3:\n4:\n5:\n6:\n7:\n8:\n", "0: 8\n", "0: 1\n1:\n2", "0;\n", "Net(1 components)",
            "0:" * 500, "\n" * 1000, "0: " + "1 " * 400 + "\n", " ".join(["0:"] + ["1"] * 400) + "\n", "x" * 1000,
        ):
            with self.subTest(text=text[:80]), self.assertRaises(TextError):
                Net.read(text)


def nearly(text):
    """Texts that are like this one but for a sign, a word or a line."""
    found = []
    for place in range(len(text) + 1):
        found += [text[:place] + sign + text[place:] for sign in "0127:+- \n,;x"]
        found += [text[:place] + sign + text[place + 1:] for sign in "0127:+- \n,;x"]
        found.append(text[:place] + text[place + 1:])
        found.append(text[:place] + text[place + 1:place + 2] + text[place:place + 1] + text[place + 2:])
    for cut in (" ", "\n"):
        parts = text.split(cut)
        for place in range(len(parts)):
            found.append(cut.join(parts[:place] + parts[place + 1:]))
            found.append(cut.join(parts[:place] + parts[place:place + 1] + parts[place:]))
            for other in range(place):
                changed = list(parts)
                changed[place], changed[other] = changed[other], changed[place]
                found.append(cut.join(changed))
        found += [cut.join(parts[::-1]), cut + text, text + cut, text[:-1], text + text]
    for number in "01234567":
        found += [text.replace(number, other + number) for other in ("0", "+", "-", " ", "1")]
    return found


class NearlyTextTest(unittest.TestCase):
    def check(self, text, net):
        if net is None:
            with self.assertRaises(TextError, msg=text):
                Net.read(text)
        else:
            self.assertEqual(Net.read(text).needs, net, text)

    def test_all_small_nets(self):
        # So that also each text with a line more is found there, if it is that of a net.
        right = second.texts(4)
        for number, net in enumerate(second.all_nets(1) + second.all_nets(2) + second.all_nets(3)):
            for text in nearly(second.text(net))[number % 3::3]:
                self.check(text, right.get(text))

    def test_larger_nets(self):
        for net in (OVERVIEW, RING, TWO_RINGS):
            for text in nearly(second.text(net)):
                self.check(text, second.read(text))


if __name__ == "__main__":
    unittest.main()
