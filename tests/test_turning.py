"""Points 11 and 12: turning a key up, and the turns from one tree to another."""

import unittest

from reckoning import KEYS12, all_trees, leaning_left, leaning_right, mixed_order, put_in_order, right_above, turned_up
from seektree.errors import AtRoot, NoKey
from seektree.trees import row_of
from seektree.turning import turned, turns

BEGINNINGS = ["a", "aa", "ab", "abc", "abcdefgh", "b"]
NO_KEYS = ("", "a", "an", "ants", "aaa", "cow", "zebra", "zzzzzzzz", "Ant", "ANT", "ant ", " ant", "ant1", "-", "(",
           "antantant", "a" * 20, "b" * 20)


class ByHand(unittest.TestCase):
    def test_two_keys(self):
        keys = ["ant", "bee"]
        low, high = ("ant", None, ("bee", None, None)), ("bee", ("ant", None, None), None)
        self.assertEqual(turned(keys, low, "bee"), high)
        self.assertEqual(turned(keys, high, "ant"), low)

    def test_from_the_left_the_right_tree_moves_over(self):
        keys = ["a", "b", "c", "d", "e"]
        tree = ("d", ("b", ("a", None, None), ("c", None, None)), ("e", None, None))
        up = ("b", ("a", None, None), ("d", ("c", None, None), ("e", None, None)))
        self.assertEqual(turned(keys, tree, "b"), up)
        self.assertEqual(turned(keys, up, "d"), tree)

    def test_beneath_the_root_the_rest_stays(self):
        keys = ["a", "b", "c", "d", "e"]
        left = ("e", ("c", ("a", None, ("b", None, None)), ("d", None, None)), None)
        self.assertEqual(turned(keys, left, "a"), ("e", ("a", None, ("c", ("b", None, None), ("d", None, None))), None))
        self.assertEqual(turned(keys, left, "d"), ("e", ("d", ("c", ("a", None, ("b", None, None)), None), None), None))
        right = ("a", None, ("c", ("b", None, None), ("e", ("d", None, None), None)))
        self.assertEqual(turned(keys, right, "e"),
                         ("a", None, ("e", ("c", ("b", None, None), ("d", None, None)), None)))
        self.assertEqual(turned(keys, right, "b"),
                         ("a", None, ("b", None, ("c", None, ("e", ("d", None, None), None)))))


class AtEveryKey(unittest.TestCase):
    def hold(self, keys, tree):
        for key in keys:
            with self.subTest(tree=tree, key=key):
                if tree[0] == key:
                    self.assertRaises(AtRoot, turned, keys, tree, key)
                    continue
                above = right_above(tree, key)
                up = turned(keys, tree, key)
                self.assertEqual(up, turned_up(tree, key))
                self.assertEqual(row_of(up), keys)
                self.assertEqual(right_above(up, above), key)
                self.assertEqual(turned(keys, up, above), tree)

    def test_of_every_tree_of_a_few_keys(self):
        for n in range(1, 7):
            for tree in all_trees(BEGINNINGS[:n]):
                self.hold(BEGINNINGS[:n], tree)

    def test_of_trees_of_twelve_keys(self):
        for tree in (leaning_left(KEYS12), leaning_right(KEYS12)):
            self.hold(KEYS12, tree)
        for seed in range(60):
            self.hold(KEYS12, put_in_order(mixed_order(seed, KEYS12)))


class Refused(unittest.TestCase):
    def test_a_word_that_is_no_key(self):
        keys = ["ant", "bee", "cat"]
        for tree in all_trees(keys):
            for word in NO_KEYS:
                with self.subTest(tree=tree, word=word):
                    self.assertRaises(NoKey, turned, keys, tree, word)

    def test_any_word_where_there_are_no_keys(self):
        for word in NO_KEYS:
            self.assertRaises(NoKey, turned, [], None, word)

    def test_a_key_with_nothing_above_it(self):
        for n in range(1, 6):
            for tree in all_trees(KEYS12[:n]):
                self.assertRaises(AtRoot, turned, KEYS12[:n], tree, tree[0])
        self.assertRaises(AtRoot, turned, KEYS12, leaning_left(KEYS12), "zzzzzzzz")
        self.assertRaises(AtRoot, turned, KEYS12, leaning_right(KEYS12), "a")

    def test_a_word_that_is_no_key_beside_a_root(self):
        self.assertRaises(NoKey, turned, ["ant"], ("ant", None, None), "an")
        self.assertRaises(NoKey, turned, ["ant"], ("ant", None, None), "ants")
        self.assertRaises(AtRoot, turned, ["ant"], ("ant", None, None), "ant")


class Turns(unittest.TestCase):
    def hold(self, keys, one, other):
        told = turns(keys, one, other)
        self.assertIs(type(told), list)
        self.assertLessEqual(len(told), len(keys) * (len(keys) - 1) // 2)
        tree = one
        for key in told:
            tree = turned(keys, tree, key)
        self.assertEqual(tree, other)
        tree = one
        for key in told:
            tree = turned_up(tree, key)
        self.assertEqual(tree, other)

    def test_of_no_key_and_of_one(self):
        self.assertEqual(turns([], None, None), [])
        self.assertEqual(turns(["ant"], ("ant", None, None), ("ant", None, None)), [])

    def test_of_two_keys(self):
        low, high = ("ant", None, ("bee", None, None)), ("bee", ("ant", None, None), None)
        self.assertEqual(turns(["ant", "bee"], low, high), ["bee"])
        self.assertEqual(turns(["ant", "bee"], high, low), ["ant"])
        self.assertEqual(turns(["ant", "bee"], low, low), [])

    def test_between_every_two_trees_of_a_few_keys(self):
        for n in range(6):
            trees = all_trees(BEGINNINGS[:n])
            for one in trees:
                for other in trees:
                    self.hold(BEGINNINGS[:n], one, other)

    def test_between_trees_of_twelve_keys(self):
        zigzag = put_in_order([KEYS12[place] for place in (0, 11, 1, 10, 2, 9, 3, 8, 4, 7, 5, 6)])
        zagzig = put_in_order([KEYS12[place] for place in (11, 0, 10, 1, 9, 2, 8, 3, 7, 4, 6, 5)])
        trees = [leaning_left(KEYS12), leaning_right(KEYS12), zigzag, zagzig]
        trees += [put_in_order(mixed_order(seed, KEYS12)) for seed in range(30)]
        for one in trees:
            for other in trees:
                self.hold(KEYS12, one, other)


if __name__ == "__main__":
    unittest.main()
