"""Points 5 and 6: seeking, and what a tree costs."""

import unittest

from reckoning import KEYS12, all_trees, cost_of, leaning_left, leaning_right, mixed_weights, steps_to_gap, steps_to_key
from seektree.trees import cost, seek

KEYS = ["bee", "cat", "dog", "eel"]
TREE = ("cat", ("bee", None, None), ("eel", ("dog", None, None), None))


class Seeking(unittest.TestCase):
    def test_keys(self):
        found = [seek(KEYS, TREE, key) for key in KEYS]
        self.assertEqual(found, [("key", 2), ("key", 1), ("key", 3), ("key", 2)])

    def test_gaps(self):
        found = [seek(KEYS, TREE, word) for word in ("ant", "bug", "cow", "eb", "fox")]
        self.assertEqual(found, [("gap", 0, 2), ("gap", 1, 2), ("gap", 2, 3), ("gap", 3, 3), ("gap", 4, 2)])

    def test_right_beside_a_key(self):
        self.assertEqual(seek(KEYS, TREE, "be"), ("gap", 0, 2))
        self.assertEqual(seek(KEYS, TREE, "beea"), ("gap", 1, 2))
        self.assertEqual(seek(KEYS, TREE, "ca"), ("gap", 1, 2))
        self.assertEqual(seek(KEYS, TREE, "cata"), ("gap", 2, 3))
        self.assertEqual(seek(KEYS, TREE, "a"), ("gap", 0, 2))
        self.assertEqual(seek(KEYS, TREE, "zzzzzzzz"), ("gap", 4, 2))

    def test_no_keys(self):
        self.assertEqual(seek([], None, "ant"), ("gap", 0, 0))

    def test_one_key(self):
        tree = ("m", None, None)
        self.assertEqual(seek(["m"], tree, "m"), ("key", 1))
        self.assertEqual(seek(["m"], tree, "l"), ("gap", 0, 1))
        self.assertEqual(seek(["m"], tree, "ma"), ("gap", 1, 1))

    def test_keys_that_begin_others(self):
        keys = ["a", "ab", "abc"]
        tree = ("ab", ("a", None, None), ("abc", None, None))
        self.assertEqual([seek(keys, tree, key) for key in keys], [("key", 2), ("key", 1), ("key", 2)])
        self.assertEqual(seek(keys, tree, "aa"), ("gap", 1, 2))
        self.assertEqual(seek(keys, tree, "abb"), ("gap", 2, 2))
        self.assertEqual(seek(keys, tree, "abca"), ("gap", 3, 2))

    def test_twelve_keys(self):
        for place, key in enumerate(KEYS12):
            self.assertEqual(seek(KEYS12, leaning_right(KEYS12), key), ("key", place + 1))
            self.assertEqual(seek(KEYS12, leaning_left(KEYS12), key), ("key", 12 - place))
        self.assertEqual(seek(KEYS12, leaning_right(KEYS12), "zz"), ("gap", 11, 12))
        self.assertEqual(seek(KEYS12, leaning_left(KEYS12), "zz"), ("gap", 11, 2))
        self.assertEqual(seek(KEYS12, leaning_left(KEYS12), "aa"), ("gap", 1, 12))

    def test_all_trees_of_some_keys(self):
        words = ["ant", "bug", "cow", "eb", "fox"]
        for tree in all_trees(KEYS):
            for place, key in enumerate(KEYS):
                self.assertEqual(seek(KEYS, tree, key), ("key", steps_to_key(KEYS, tree, place)))
            for gap, word in enumerate(words):
                self.assertEqual(seek(KEYS, tree, word), ("gap", gap, steps_to_gap(KEYS, tree, gap)))


class Cost(unittest.TestCase):
    def test_keys_alone(self):
        self.assertEqual(cost(KEYS, [1, 10, 100, 1000], [0] * 5, TREE), 2 + 10 + 300 + 2000)

    def test_gaps_alone(self):
        self.assertEqual(cost(KEYS, [0] * 4, [1, 10, 100, 1000, 10000], TREE), 2 + 20 + 300 + 3000 + 20000)

    def test_both(self):
        self.assertEqual(cost(KEYS, [1, 2, 3, 4], [5, 6, 7, 8, 9], TREE), 21 + 85)

    def test_no_keys(self):
        self.assertEqual(cost([], [], [0], None), 0)
        self.assertEqual(cost([], [], [1000000], None), 0)

    def test_one_key(self):
        self.assertEqual(cost(["m"], [3], [10, 100], ("m", None, None)), 113)

    def test_gaps_in_which_no_word_lies_count(self):
        self.assertEqual(cost(["a", "aa"], [0, 0], [1, 10, 100], ("a", None, ("aa", None, None))), 1 + 20 + 200)
        self.assertEqual(cost(["a", "aa"], [0, 0], [1, 10, 100], ("aa", ("a", None, None), None)), 2 + 20 + 100)

    def test_greatest_weights_of_twelve_keys(self):
        most = 1000000
        self.assertEqual(cost(KEYS12, [most] * 12, [most] * 13, leaning_right(KEYS12)), (78 + 78 + 12) * most)
        self.assertEqual(cost(KEYS12, [most] * 12, [most] * 13, leaning_left(KEYS12)), (78 + 78 + 12) * most)
        self.assertEqual(cost(KEYS12, [0] * 12, [0] * 13, leaning_left(KEYS12)), 0)

    def test_is_what_seeking_takes(self):
        words = ["ant", "bug", "cow", "eb", "fox"]
        hits = [3, 1, 4, 1]
        misses = [5, 9, 2, 6, 5]
        for tree in all_trees(KEYS):
            total = sum(hit * seek(KEYS, tree, key)[1] for hit, key in zip(hits, KEYS))
            total += sum(miss * seek(KEYS, tree, word)[2] for miss, word in zip(misses, words))
            self.assertEqual(cost(KEYS, hits, misses, tree), total)

    def test_all_trees_of_six_keys(self):
        keys = KEYS12[:6]
        for seed, tree in enumerate(all_trees(keys)):
            hits = mixed_weights(seed, 6, 1000000)
            misses = mixed_weights(seed + 1000, 7, 1000000)
            self.assertEqual(cost(keys, hits, misses, tree), cost_of(keys, hits, misses, tree))


if __name__ == "__main__":
    unittest.main()
