"""Copies of values of any kind."""

import unittest

from dealtpowers.values import added_up, copied, is_list


class ValuesTest(unittest.TestCase):
    def test_is_list(self):
        for value in ([], [1], (), (1, [2])):
            self.assertIs(is_list(value), True)
        for value in (None, True, 0, "", "ab"):
            self.assertIs(is_list(value), False)

    def test_copies_are_equal(self):
        for value in (None, True, 5, "a", [], (), [1, [2]], ([1], ([2],)), [[[[[[[[1]]]]]]]]):
            self.assertEqual(copied(value), value)
            self.assertIs(type(copied(value)), type(value))

    def test_lists_are_new(self):
        value = [1, [2], ([3], (4, [5]))]
        held = copied(value)
        value[1].append(6)
        value[2][0].append(6)
        value[2][1][1].append(6)
        value.append(6)
        self.assertEqual(held, [1, [2], ([3], (4, [5]))])

    def test_added_up(self):
        pairs = [((2,), 3), ((1,), 1), ((2,), 4)]
        self.assertEqual(added_up(pairs), [((1,), 1), ((2,), 7)])
        self.assertEqual([pairs, added_up([])], [[((2,), 3), ((1,), 1), ((2,), 4)], []])


if __name__ == "__main__":
    unittest.main()
