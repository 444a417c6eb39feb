"""Tests of bestheard.copies."""

import unittest

from bestheard.copies import copy_of


class CopiesTest(unittest.TestCase):
    def test_copies_are_equal(self):
        for value in (1, True, None, "a", (), [], ("a", 1), ["a", [1]], (["a"], ("b", ["c"]))):
            self.assertEqual(copy_of(value), value)
            self.assertIs(copy_of(value).__class__, value.__class__)

    def test_lists_are_new_at_every_depth(self):
        value = [["a"], (1, ["b", (["c"],)])]
        found = copy_of(value)
        found.append(1)
        found[0].append(2)
        found[1][1].append(3)
        found[1][1][1][0].append(4)
        self.assertEqual(value, [["a"], (1, ["b", (["c"],)])])

    def test_eight_levels(self):
        for make in (lambda item: [item], lambda item: (item,)):
            value = ["a"]
            for _ in range(8):
                value = make(value)
            found = copy_of(value)
            self.assertEqual(found, value)
            for _ in range(8):
                found, value = found[0], value[0]
            self.assertIsNot(found, value)


if __name__ == "__main__":
    unittest.main()
