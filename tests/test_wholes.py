"""[1.1] and [0.3]: sequences, whole numbers, orders."""

import itertools
import unittest

from headamid.wholes import is_order, is_sequence, is_whole
from tests.samples import NO_SEQUENCES, SAME, STRANGE


class SequenceTest(unittest.TestCase):
    def test_lists_and_tuples(self):
        for thing in ((), [], (1,), [None], [[]], ("a", 1)):
            self.assertIs(is_sequence(thing), True)

    def test_other_things(self):
        for thing in NO_SEQUENCES:
            self.assertIs(is_sequence(thing), False)


class WholeTest(unittest.TestCase):
    def test_without_limits(self):
        for thing in (0, 1, -1, 10 ** 30, -10 ** 30):
            self.assertIs(is_whole(thing), True)
            self.assertIs(is_whole(thing, None, None), True)

    def test_no_numbers(self):
        for thing in (True, False, 1.0, 0.0, None, "1", "", b"1", (), (1,), [1], {}, {1}, 1j, object(), int, SAME):
            self.assertIs(is_whole(thing), False)
            self.assertIs(is_whole(thing, 0, 1), False)
            self.assertIs(is_whole(thing, low=0), False)
            self.assertIs(is_whole(thing, high=1), False)

    def test_limits(self):
        for low in (-2, 0, 1, None):
            for high in (-1, 0, 2, None):
                for number in range(-4, 5):
                    right = (low is None or low <= number) and (high is None or number <= high)
                    self.assertIs(is_whole(number, low, high), right)
                    self.assertIs(is_whole(number, high=high, low=low), right)

    def test_one_limit(self):
        self.assertIs(is_whole(5, 5), True)
        self.assertIs(is_whole(4, 5), False)
        self.assertIs(is_whole(4, low=5), False)
        self.assertIs(is_whole(5, high=5), True)
        self.assertIs(is_whole(6, high=5), False)
        self.assertIs(is_whole(-9, None, 5), True)


class OrderTest(unittest.TestCase):
    def test_all_rows(self):
        for many in range(4):
            for size in range(5):
                for row in itertools.product(range(-1, 5), repeat=size):
                    right = sorted(row) == list(range(many))
                    self.assertIs(is_order(row, many), right)
                    self.assertIs(is_order(list(row), many), right)

    def test_strange_items(self):
        for thing in STRANGE + (SAME,):
            self.assertIs(is_order((thing,), 1), False)
            self.assertIs(is_order([0, thing], 2), False)
            self.assertIs(is_order([thing, 1], 2), False)

    def test_no_sequences(self):
        for thing in NO_SEQUENCES:
            for many in range(3):
                self.assertIs(is_order(thing, many), False)


if __name__ == "__main__":
    unittest.main()
