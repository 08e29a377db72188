"""Points 2, 3, 4: what is refused, and which refusal comes first."""

import unittest

from reckoning import KEYS12, leaning_left, leaning_right
from seektree.best import best, least, roots, worths
from seektree.errors import AtRoot, BadText, NoKey, NoKeys, NoTree, NoWeights
from seektree.even import even, most_steps
from seektree.notes import read, shown
from seektree.trees import cost, row_of, seek
from seektree.turning import turned, turns

OF_WEIGHTS = (worths, roots, least, best)
OF_TREES = (most_steps, shown)

WRONG_KEYS = (
    [""],
    ["ant", ""],
    ["", "ant"],
    ["abcdefghi"],
    ["ant", "beebeebee"],
    ["a" * 20],
    ["Ant"],
    ["anT"],
    ["ant1"],
    ["1"],
    ["an t"],
    [" ant"],
    ["ant "],
    ["ant\n"],
    ["\tant"],
    ["ant-bee"],
    ["`"],
    ["{"],
    ["\u00e4nt"],
    ["\u00df"],
    ["\u0430nt"],
    ["ant", "bee", "caf\u00e9"],
    ["bee", "ant"],
    ["ant", "cat", "bee"],
    ["ab", "a"],
    ["ant", "ant"],
    ["ant", "bee", "bee"],
    ["ant", "bee", "ant"],
    KEYS12[:11] + ["i", "j"],
    KEYS12 + ["zzzzzzzz"],
    [chr(97 + k) for k in range(13)],
    [chr(97 + k // 26) + chr(97 + k % 26) for k in range(40)],
    ["ant"] * 40,
)

# Each is wrong for two keys.
WRONG_WEIGHTS = (
    ([], [0, 0, 0]),
    ([1], [0, 0, 0]),
    ([1, 2, 3], [0, 0, 0]),
    ([1] * 40, [0, 0, 0]),
    ([1, 2], []),
    ([1, 2], [0, 0]),
    ([1, 2], [0, 0, 0, 0]),
    ([1, 2], [0] * 40),
    ([1, 2, 3], [0, 0, 0, 0]),
    ([1, 2, 3], [0, 0]),
    ([1], [0, 0]),
    ([-1, 2], [0, 0, 0]),
    ([1, -1], [0, 0, 0]),
    ([1000001, 2], [0, 0, 0]),
    ([1, 1000001], [0, 0, 0]),
    ([1, 10 ** 30], [0, 0, 0]),
    ([1, 2], [-1, 0, 0]),
    ([1, 2], [0, -1, 0]),
    ([1, 2], [0, 0, -1]),
    ([1, 2], [1000001, 0, 0]),
    ([1, 2], [0, 0, 1000001]),
    ([1, 2], [0, 0, -(10 ** 30)]),
)

# Each is none of the keys ant, bee, cat.
WRONG_TREES = (
    None,
    ("bee", None, None),
    ("bee", ("ant", None, None), None),
    ("bee", None, ("cat", None, None)),
    ("bee", ("ant", None, None), ("cat", None, ("dog", None, None))),
    ("bee", ("ant", ("a", None, None), None), ("cat", None, None)),
    ("bee", ("ant", None, None), ("cow", None, None)),
    ("bed", ("ant", None, None), ("cat", None, None)),
    ("bee", ("cat", None, None), ("ant", None, None)),
    ("ant", ("bee", None, None), ("cat", None, None)),
    ("bee", ("ant", None, None), ("cat", None, ("cat", None, None))),
    ("bee", ("ant", None, None), ("bee", None, ("cat", None, None))),
    leaning_right(["cat", "bee", "ant"]),
    leaning_left(KEYS12),
    leaning_right([chr(97 + k) for k in range(20)]),
)
RIGHT_TREE = ("bee", ("ant", None, None), ("cat", None, None))


class WrongKeys(unittest.TestCase):
    def test_every_function_refuses_them(self):
        for keys in WRONG_KEYS:
            hits = [1] * len(keys)
            misses = [1] * (len(keys) + 1)
            tree = leaning_right(keys)
            with self.subTest(keys=keys):
                for function in OF_WEIGHTS:
                    self.assertRaises(NoKeys, function, list(keys), hits, misses)
                self.assertRaises(NoKeys, cost, list(keys), hits, misses, tree)
                self.assertRaises(NoKeys, seek, list(keys), tree, "ant")
                self.assertRaises(NoKeys, even, list(keys))
                for function in OF_TREES:
                    self.assertRaises(NoKeys, function, list(keys), tree)
                self.assertRaises(NoKeys, turned, list(keys), tree, keys[-1])
                self.assertRaises(NoKeys, turns, list(keys), tree, leaning_left(keys))

    def test_ahead_of_wrong_weights_and_trees(self):
        for keys in WRONG_KEYS:
            with self.subTest(keys=keys):
                for function in OF_WEIGHTS:
                    self.assertRaises(NoKeys, function, keys, [-1], [1000001])
                    self.assertRaises(NoKeys, function, keys, [], [])
                self.assertRaises(NoKeys, cost, keys, [-1], [], ("zebra", None, None))
                self.assertRaises(NoKeys, cost, keys, [1] * len(keys), [1] * (len(keys) + 1), ("zebra", None, None))
                self.assertRaises(NoKeys, cost, keys, [], [], leaning_right(keys))
                self.assertRaises(NoKeys, seek, keys, ("zebra", None, None), "ant")
                for function in OF_TREES:
                    self.assertRaises(NoKeys, function, keys, ("zebra", None, None))
                    self.assertRaises(NoKeys, function, keys, None)
                self.assertRaises(NoKeys, turned, keys, ("zebra", None, None), keys[0])
                self.assertRaises(NoKeys, turns, keys, ("zebra", None, None), leaning_left(keys))
                self.assertRaises(NoKeys, turns, keys, leaning_left(keys), ("zebra", None, None))
                self.assertRaises(NoKeys, turns, keys, None, None)

    def test_ahead_of_words_that_are_no_keys_and_of_roots(self):
        for keys in WRONG_KEYS:
            tree = leaning_right(keys)
            with self.subTest(keys=keys):
                self.assertRaises(NoKeys, turned, keys, tree, "zebra")
                self.assertRaises(NoKeys, turned, keys, tree, tree[0])
                self.assertRaises(NoKeys, turned, keys, None, "zebra")
                self.assertRaises(NoKeys, turned, keys, ("zebra", None, None), "zebra")


class RightKeys(unittest.TestCase):
    def test_the_edges_are_taken(self):
        for keys in ([], ["a"], ["z"], ["zzzzzzzz"], ["abcdefgh"], ["a", "aa", "aaa", "ab", "b"], KEYS12):
            hits = [0] * len(keys)
            misses = [1000000] * (len(keys) + 1)
            with self.subTest(keys=keys):
                for function in OF_WEIGHTS:
                    function(keys, hits, misses)
                cost(keys, hits, misses, leaning_left(keys))
                seek(keys, leaning_left(keys), "ant")
                even(keys)
                for function in OF_TREES:
                    function(keys, leaning_left(keys))
                turns(keys, leaning_left(keys), leaning_right(keys))


class WrongWeights(unittest.TestCase):
    def test_every_function_refuses_them(self):
        keys = ["ant", "bee"]
        for hits, misses in WRONG_WEIGHTS:
            with self.subTest(hits=hits, misses=misses):
                for function in OF_WEIGHTS:
                    self.assertRaises(NoWeights, function, keys, hits, misses)
                self.assertRaises(NoWeights, cost, keys, hits, misses, leaning_left(keys))

    def test_ahead_of_wrong_trees(self):
        for hits, misses in WRONG_WEIGHTS:
            for tree in (None, ("ant", None, None), ("ant", ("bee", None, None), None)):
                with self.subTest(hits=hits, misses=misses, tree=tree):
                    self.assertRaises(NoWeights, cost, ["ant", "bee"], hits, misses, tree)

    def test_of_no_keys(self):
        for hits, misses in (([], []), ([0], [0]), ([], [0, 0]), ([0], []), ([], [-1]), ([], [1000001])):
            with self.subTest(hits=hits, misses=misses):
                for function in OF_WEIGHTS:
                    self.assertRaises(NoWeights, function, [], hits, misses)
                self.assertRaises(NoWeights, cost, [], hits, misses, None)

    def test_of_twelve_keys(self):
        for place in range(13):
            misses = [0] * 13
            misses[place] = 1000001
            self.assertRaises(NoWeights, worths, KEYS12, [0] * 12, misses)
        for place in range(12):
            hits = [0] * 12
            hits[place] = -1
            self.assertRaises(NoWeights, worths, KEYS12, hits, [0] * 13)


class RightWeights(unittest.TestCase):
    def test_0_and_1000000_are_taken(self):
        keys = ["ant", "bee"]
        for hits in ([0, 0], [1000000, 1000000], [0, 1000000]):
            for misses in ([0, 0, 0], [1000000, 1000000, 1000000], [1000000, 0, 1000000]):
                for function in OF_WEIGHTS:
                    function(keys, hits, misses)
                cost(keys, hits, misses, leaning_right(keys))


class WrongTrees(unittest.TestCase):
    def test_refused(self):
        keys = ["ant", "bee", "cat"]
        for tree in WRONG_TREES:
            with self.subTest(tree=tree):
                self.assertRaises(NoTree, seek, keys, tree, "bee")
                self.assertRaises(NoTree, seek, keys, tree, "cow")
                self.assertRaises(NoTree, cost, keys, [1, 2, 3], [0, 0, 0, 0], tree)
                for function in OF_TREES:
                    self.assertRaises(NoTree, function, keys, tree)
                self.assertRaises(NoTree, turned, keys, tree, "ant")
                self.assertRaises(NoTree, turned, keys, tree, "cat")
                self.assertRaises(NoTree, turns, keys, tree, RIGHT_TREE)
                self.assertRaises(NoTree, turns, keys, RIGHT_TREE, tree)
                self.assertRaises(NoTree, turns, keys, tree, tree)
        self.assertEqual(seek(keys, RIGHT_TREE, "bee"), ("key", 1))
        self.assertEqual(cost(keys, [1, 2, 3], [0, 0, 0, 0], RIGHT_TREE), 10)

    def test_ahead_of_words_that_are_no_keys_and_of_roots(self):
        keys = ["ant", "bee", "cat"]
        for tree in WRONG_TREES:
            with self.subTest(tree=tree):
                for word in ("", "zebra", "dog", "cow", "bee", "a"):
                    self.assertRaises(NoTree, turned, keys, tree, word)
                if tree is not None:
                    self.assertRaises(NoTree, turned, keys, tree, tree[0])
        self.assertRaises(NoKey, turned, keys, RIGHT_TREE, "zebra")
        self.assertRaises(AtRoot, turned, keys, RIGHT_TREE, "bee")

    def test_of_no_keys(self):
        tree = ("ant", None, None)
        self.assertRaises(NoTree, seek, [], tree, "ant")
        self.assertRaises(NoTree, cost, [], [], [0], tree)
        for function in OF_TREES:
            self.assertRaises(NoTree, function, [], tree)
        self.assertRaises(NoTree, turned, [], tree, "ant")
        self.assertRaises(NoTree, turned, [], tree, "bee")
        self.assertRaises(NoTree, turns, [], tree, None)
        self.assertRaises(NoTree, turns, [], None, tree)

    def test_words_that_are_none(self):
        for word in ("", "Ant", "antantant", "an t"):
            self.assertRaises(NoTree, seek, ["ant"], (word, None, None), "ant")
            for function in OF_TREES:
                self.assertRaises(NoTree, function, ["ant"], (word, None, None))
            self.assertRaises(NoTree, turned, ["ant"], (word, None, None), word)
            self.assertRaises(NoTree, turns, ["ant"], (word, None, None), ("ant", None, None))
            self.assertRaises(NoTree, turns, ["ant"], ("ant", None, None), (word, None, None))

    def test_of_twelve_keys(self):
        for place in range(12):
            tree = leaning_right(KEYS12[:place] + KEYS12[place + 1:])
            for function in OF_TREES:
                self.assertRaises(NoTree, function, KEYS12, tree)
            self.assertRaises(NoTree, turned, KEYS12, tree, "bee")
            self.assertRaises(NoTree, turns, KEYS12, tree, leaning_left(KEYS12))
            self.assertRaises(NoTree, turns, KEYS12, leaning_left(KEYS12), tree)


class TextsOfNoTree(unittest.TestCase):
    def test_keys_that_are_none_are_bad_texts(self):
        # What reading refuses is the text, whatever in it is wrong: never NoKeys or NoTree.
        for text in ("", "(", "(- Ant -)", "(- bee (- ant -))", "(- ant (- ant -))", "(- abcdefghi -)", "(-  -)"):
            self.assertRaises(BadText, read, text)


class RowOf(unittest.TestCase):
    def test_no_tree(self):
        self.assertEqual(row_of(None), [])

    def test_left_then_word_then_right(self):
        self.assertEqual(row_of(RIGHT_TREE), ["ant", "bee", "cat"])
        self.assertEqual(row_of(leaning_left(KEYS12)), KEYS12)
        self.assertEqual(row_of(leaning_right(KEYS12)), KEYS12)

    def test_refuses_nothing(self):
        self.assertEqual(row_of(("bee", ("cat", None, None), ("ant", None, None))), ["cat", "bee", "ant"])
        self.assertEqual(row_of(("bee", ("bee", None, None), None)), ["bee", "bee"])
        self.assertEqual(row_of(("b", None, ("a", None, ("b", None, None)))), ["b", "a", "b"])
        words = [chr(116 - k) for k in range(20)]
        self.assertEqual(row_of(leaning_left(words)), words)
        self.assertEqual(row_of(leaning_right(words)), words)


if __name__ == "__main__":
    unittest.main()
