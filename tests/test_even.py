"""Point 10: even trees, and the most steps of a tree."""

import unittest

from reckoning import (KEYS12, all_trees, fewest_steps, leaning_left, leaning_right, mixed_order, put_in_order,
                       steps_to_key)
from seektree.even import even, most_steps
from seektree.trees import row_of, seek

KEY_ROWS = (
    KEYS12,
    list("abcdefghijkl"),
    ["a" * length for length in range(1, 9)],
    ["zzzzzzz" + letter for letter in "abcdefghijkl"],
)


def most_of(keys, tree):
    return max([steps_to_key(keys, tree, place) for place in range(len(keys))], default=0)


class MostSteps(unittest.TestCase):
    def test_by_hand(self):
        keys = ["ant", "bee", "cat", "dog"]
        self.assertEqual(most_steps(keys, ("bee", ("ant", None, None), ("cat", None, ("dog", None, None)))), 3)
        self.assertEqual(most_steps(keys, ("dog", ("ant", None, ("cat", ("bee", None, None), None)), None)), 4)
        self.assertEqual(most_steps(keys[:3], ("bee", ("ant", None, None), ("cat", None, None))), 2)

    def test_no_keys_no_steps(self):
        self.assertEqual(most_steps([], None), 0)

    def test_one_key(self):
        for key in ("a", "z", "abcdefgh"):
            self.assertEqual(most_steps([key], (key, None, None)), 1)

    def test_trees_that_lean(self):
        for n in range(13):
            self.assertEqual(most_steps(KEYS12[:n], leaning_left(KEYS12[:n])), n)
            self.assertEqual(most_steps(KEYS12[:n], leaning_right(KEYS12[:n])), n)

    def test_all_trees_of_a_few_keys(self):
        for n in range(7):
            for tree in all_trees(KEYS12[:n]):
                self.assertEqual(most_steps(KEYS12[:n], tree), most_of(KEYS12[:n], tree))

    def test_trees_of_twelve_keys(self):
        for seed in range(200):
            tree = put_in_order(mixed_order(seed, KEYS12))
            self.assertEqual(most_steps(KEYS12, tree), most_of(KEYS12, tree))
            self.assertEqual(most_steps(KEYS12, tree), max(seek(KEYS12, tree, key)[1] for key in KEYS12))


class Even(unittest.TestCase):
    def test_no_keys(self):
        self.assertIsNone(even([]))

    def test_one_key(self):
        for key in ("a", "z", "abcdefgh"):
            self.assertEqual(even([key]), (key, None, None))

    def test_three_keys_have_one_even_tree(self):
        self.assertEqual(even(["ant", "bee", "cat"]), ("bee", ("ant", None, None), ("cat", None, None)))

    def test_seven_keys_have_one_even_tree(self):
        tree = even(list("abcdefg"))
        self.assertEqual(tree, put_in_order(list("dbacfeg")))

    def test_is_a_tree_of_the_keys(self):
        for keys in KEY_ROWS:
            for n in range(len(keys) + 1):
                self.assertEqual(row_of(even(keys[:n])), keys[:n])

    def test_fewest_steps_of_0_to_12_keys(self):
        self.assertEqual([fewest_steps(n) for n in range(13)], [0, 1, 2, 2, 3, 3, 3, 3, 4, 4, 4, 4, 4])
        for keys in KEY_ROWS:
            for n in range(len(keys) + 1):
                tree = even(keys[:n])
                self.assertEqual(most_of(keys[:n], tree), fewest_steps(n))
                self.assertEqual(most_steps(keys[:n], tree), fewest_steps(n))

    def test_against_all_trees_of_a_few_keys(self):
        for n in range(9):
            keys = KEYS12[:n]
            fewest = min(most_steps(keys, tree) for tree in all_trees(keys))
            self.assertEqual(fewest, fewest_steps(n))
            self.assertEqual(most_steps(keys, even(keys)), fewest)


if __name__ == "__main__":
    unittest.main()
