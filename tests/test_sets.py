"""The two tables of all sets, on which every answer rests."""

import unittest

from rootalarms.sets import BITS, SETS

from tests import second


class SetsTest(unittest.TestCase):
    def test_the_sets_stand_in_the_order_of_their_bits(self):
        self.assertEqual(len(SETS), 256)
        for bits, found in enumerate(SETS):
            self.assertEqual(repr(found), repr(tuple(c for c in range(8) if bits >> c & 1)))

    def test_each_set_has_its_bits(self):
        self.assertEqual(sorted(BITS), second.all_sets(8))
        for found, bits in BITS.items():
            self.assertEqual(repr(SETS[bits]), repr(found))


if __name__ == "__main__":
    unittest.main()
