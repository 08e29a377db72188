"""What the tests reckon by themselves: by going through all trees, straight from the words of the document."""

KEYS12 = ["a", "ab", "abc", "b", "bee", "cat", "dog", "eel", "fox", "gnu", "hen", "zzzzzzzz"]


def all_trees(keys):
    if not keys:
        return [None]
    trees = []
    for place, key in enumerate(keys):
        for left in all_trees(keys[:place]):
            for right in all_trees(keys[place + 1:]):
                trees.append((key, left, right))
    return trees


def leaning_right(keys):
    tree = None
    for key in reversed(keys):
        tree = (key, None, tree)
    return tree


def leaning_left(keys):
    tree = None
    for key in keys:
        tree = (key, tree, None)
    return tree


def steps_to_key(keys, tree, place):
    steps = 1
    while keys.index(tree[0]) != place:
        tree = tree[1] if place < keys.index(tree[0]) else tree[2]
        steps += 1
    return steps


def steps_to_gap(keys, tree, gap):
    steps = 0
    while tree is not None:
        tree = tree[1] if gap <= keys.index(tree[0]) else tree[2]
        steps += 1
    return steps


def cost_of(keys, hits, misses, tree):
    total = 0
    for place in range(len(keys)):
        total += hits[place] * steps_to_key(keys, tree, place)
    for gap in range(len(keys) + 1):
        total += misses[gap] * steps_to_gap(keys, tree, gap)
    return total


def least_trees(keys, hits, misses):
    """The least cost, and all trees that have it."""
    costs = [(cost_of(keys, hits, misses, tree), tree) for tree in all_trees(keys)]
    least = min(cost for cost, tree in costs)
    return least, [tree for cost, tree in costs if cost == least]


def worths_of(keys, hits, misses):
    n = len(keys)
    return [
        [least_trees(keys[i:j], hits[i:j], misses[i:j + 1])[0] for j in range(i, n + 1)]
        for i in range(n + 1)
    ]


def roots_of(keys, hits, misses):
    n = len(keys)
    return [
        [
            min(keys.index(tree[0]) for tree in least_trees(keys[i:j], hits[i:j], misses[i:j + 1])[1])
            for j in range(i + 1, n + 1)
        ]
        for i in range(n)
    ]


def best_of(keys, hits, misses):
    """Of the trees that cost least those with the least root; of these the one whose two trees are best."""
    if not keys:
        return None
    trees = least_trees(keys, hits, misses)[1]
    root = min(keys.index(tree[0]) for tree in trees)
    left = best_of(keys[:root], hits[:root], misses[:root + 1])
    right = best_of(keys[root + 1:], hits[root + 1:], misses[root + 1:])
    found = [tree for tree in trees if tree == (keys[root], left, right)]
    assert len(found) == 1
    return found[0]


def mixed_weights(seed, count, most):
    """Weights from 0 to most that look unordered, the same on every run."""
    weights = []
    for _ in range(count):
        seed = (seed * 1103515245 + 12345) % 2147483648
        weights.append((seed >> 8) % (most + 1))
    return weights
