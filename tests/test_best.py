"""Points 7, 8, 9: worths, roots, the least cost and the best tree."""

import itertools
import unittest

from reckoning import KEYS12, best_of, leaning_right, least_trees, mixed_weights, roots_of, worths_of
from seektree.best import best, least, roots, worths
from seektree.trees import cost, row_of


class ByHand(unittest.TestCase):
    def test_no_keys(self):
        for miss in (0, 7, 1000000):
            self.assertEqual(worths([], [], [miss]), [[0]])
            self.assertEqual(roots([], [], [miss]), [])
            self.assertEqual(least([], [], [miss]), 0)
            self.assertIsNone(best([], [], [miss]))

    def test_one_key(self):
        self.assertEqual(worths(["m"], [3], [10, 100]), [[0, 113], [0]])
        self.assertEqual(roots(["m"], [3], [10, 100]), [[0]])
        self.assertEqual(least(["m"], [3], [10, 100]), 113)
        self.assertEqual(best(["m"], [3], [10, 100]), ("m", None, None))

    def test_two_keys(self):
        keys = ["ant", "bee"]
        self.assertEqual(worths(keys, [1, 5], [0, 2, 0]), [[0, 3, 11], [0, 7], [0]])
        self.assertEqual(roots(keys, [1, 5], [0, 2, 0]), [[0, 1], [1]])
        self.assertEqual(least(keys, [1, 5], [0, 2, 0]), 11)
        self.assertEqual(best(keys, [1, 5], [0, 2, 0]), ("bee", ("ant", None, None), None))

    def test_misses_alone_tell(self):
        keys = ["ant", "bee", "cat"]
        self.assertEqual(best(keys, [0, 0, 0], [0, 0, 0, 1]), ("cat", ("ant", None, ("bee", None, None)), None))
        self.assertEqual(best(keys, [0, 0, 0], [1, 0, 0, 0]), leaning_right(keys))

    def test_all_weights_0(self):
        self.assertEqual(worths(KEYS12, [0] * 12, [0] * 13), [[0] * (13 - i) for i in range(13)])
        self.assertEqual(roots(KEYS12, [0] * 12, [0] * 13), [[i] * (12 - i) for i in range(12)])
        self.assertEqual(least(KEYS12, [0] * 12, [0] * 13), 0)
        self.assertEqual(best(KEYS12, [0] * 12, [0] * 13), leaning_right(KEYS12))

    def test_all_weights_the_same(self):
        keys = ["ant", "bee", "cat", "dog"]
        right = ("cat", None, ("dog", None, None))
        self.assertEqual(best(keys, [1] * 4, [1] * 5), ("bee", ("ant", None, None), right))
        self.assertEqual(best(keys, [1] * 4, [0] * 5), ("bee", ("ant", None, None), right))
        self.assertEqual(best(keys, [0] * 4, [1] * 5), ("bee", ("ant", None, None), right))
        self.assertEqual(roots(keys, [1] * 4, [0] * 5), [[0, 0, 1, 1], [1, 1, 2], [2, 2], [3]])

    def test_greatest_weights_of_twelve_keys(self):
        # Keys on full levels: 1 + 2 * 2 + 4 * 3 + 5 * 4 steps; gaps: 3 after three steps, 10 after four.
        self.assertEqual(least(KEYS12, [1000000] * 12, [1000000] * 13), (37 + 49) * 1000000)
        self.assertEqual(least(KEYS12, [1000000] * 12, [0] * 13), 37 * 1000000)
        self.assertEqual(least(KEYS12, [0] * 12, [1000000] * 13), 49 * 1000000)


class ThroughAllTrees(unittest.TestCase):
    def hold(self, keys, hits, misses):
        with self.subTest(hits=hits, misses=misses):
            self.assertEqual(worths(keys, hits, misses), worths_of(keys, hits, misses))
            self.assertEqual(roots(keys, hits, misses), roots_of(keys, hits, misses))
            self.assertEqual(least(keys, hits, misses), least_trees(keys, hits, misses)[0])
            self.assertEqual(best(keys, hits, misses), best_of(keys, hits, misses))

    def test_few_keys_with_all_small_weights(self):
        for n, most in ((0, 3), (1, 3), (2, 2), (3, 1)):
            for weights in itertools.product(range(most + 1), repeat=2 * n + 1):
                self.hold(["a", "ab", "b"][:n], list(weights[:n]), list(weights[n:]))

    def test_all_weights_the_same(self):
        for n in range(7):
            for hit, miss in ((0, 0), (1, 0), (0, 1), (1, 1), (1000000, 1000000), (1000000, 0), (0, 1000000)):
                self.hold(KEYS12[:n], [hit] * n, [miss] * (n + 1))

    def test_mixed_weights(self):
        for seed in range(20):
            for n, most in ((4, 2), (5, 3), (5, 1000000)):
                self.hold(KEYS12[:n], mixed_weights(seed, n, most), mixed_weights(seed + 100, n + 1, most))

    def test_mixed_weights_of_seven_keys(self):
        for seed in range(3):
            for most in (1, 1000000):
                self.hold(KEYS12[:7], mixed_weights(seed, 7, most), mixed_weights(seed + 100, 8, most))


class OfTwelveKeys(unittest.TestCase):
    def cases(self):
        for seed in range(60):
            for most in (1, 3, 1000000):
                yield mixed_weights(seed, 12, most), mixed_weights(seed + 1000, 13, most)

    def test_forms(self):
        for hits, misses in self.cases():
            self.assertEqual([len(row) for row in worths(KEYS12, hits, misses)], list(range(13, 0, -1)))
            self.assertEqual([len(row) for row in roots(KEYS12, hits, misses)], list(range(12, 0, -1)))

    def test_worths_are_whole_weight_and_both_parts(self):
        for hits, misses in self.cases():
            told = worths(KEYS12, hits, misses)
            places = roots(KEYS12, hits, misses)
            for i, j in itertools.combinations(range(13), 2):
                sums = {k: told[i][k - i] + told[k + 1][j - k - 1] for k in range(i, j)}
                whole = sum(hits[i:j]) + sum(misses[i:j + 1])
                self.assertEqual(told[i][j - i], whole + min(sums.values()))
                self.assertEqual(places[i][j - i - 1], min(k for k in sums if sums[k] == min(sums.values())))

    def test_roots_lie_between_those_of_shorter_stretches(self):
        for hits, misses in self.cases():
            places = roots(KEYS12, hits, misses)
            for i in range(12):
                for j in range(i + 2, 13):
                    root = places[i][j - i - 1]
                    self.assertLessEqual(places[i][j - i - 2], root)
                    self.assertLessEqual(root, places[i + 1][j - i - 2])

    def test_the_best_tree_costs_the_least(self):
        for hits, misses in self.cases():
            tree = best(KEYS12, hits, misses)
            self.assertEqual(row_of(tree), KEYS12)
            self.assertEqual(cost(KEYS12, hits, misses, tree), least(KEYS12, hits, misses))
            self.assertEqual(least(KEYS12, hits, misses), worths(KEYS12, hits, misses)[0][12])
            self.assertEqual(tree[0], KEYS12[roots(KEYS12, hits, misses)[0][11]])

    def test_parts_of_the_best_tree_are_best(self):
        for hits, misses in self.cases():
            tree = best(KEYS12, hits, misses)
            k = KEYS12.index(tree[0])
            self.assertEqual(tree[1], best(KEYS12[:k], hits[:k], misses[:k + 1]))
            self.assertEqual(tree[2], best(KEYS12[k + 1:], hits[k + 1:], misses[k + 1:]))


if __name__ == "__main__":
    unittest.main()
