"""What the tests reckon by themselves: by going through all trees, straight from the words of the document."""

import re

KEYS12 = ["a", "ab", "abc", "b", "bee", "cat", "dog", "eel", "fox", "gnu", "hen", "zzzzzzzz"]


def all_trees(keys):
    if not keys:
        return [None]
    trees = []
    for place, key in enumerate(keys):
        for left in all_trees(keys[:place]):
            for right in all_trees(keys[place + 1:]):
                trees.append((key, left, right))
    return trees


def leaning_right(keys):
    tree = None
    for key in reversed(keys):
        tree = (key, None, tree)
    return tree


def leaning_left(keys):
    tree = None
    for key in keys:
        tree = (key, tree, None)
    return tree


def steps_to_key(keys, tree, place):
    steps = 1
    while keys.index(tree[0]) != place:
        tree = tree[1] if place < keys.index(tree[0]) else tree[2]
        steps += 1
    return steps


def steps_to_gap(keys, tree, gap):
    steps = 0
    while tree is not None:
        tree = tree[1] if gap <= keys.index(tree[0]) else tree[2]
        steps += 1
    return steps


def cost_of(keys, hits, misses, tree):
    total = 0
    for place in range(len(keys)):
        total += hits[place] * steps_to_key(keys, tree, place)
    for gap in range(len(keys) + 1):
        total += misses[gap] * steps_to_gap(keys, tree, gap)
    return total


def least_trees(keys, hits, misses):
    """The least cost, and all trees that have it."""
    costs = [(cost_of(keys, hits, misses, tree), tree) for tree in all_trees(keys)]
    least = min(cost for cost, tree in costs)
    return least, [tree for cost, tree in costs if cost == least]


def worths_of(keys, hits, misses):
    n = len(keys)
    return [
        [least_trees(keys[i:j], hits[i:j], misses[i:j + 1])[0] for j in range(i, n + 1)]
        for i in range(n + 1)
    ]


def roots_of(keys, hits, misses):
    n = len(keys)
    return [
        [
            min(keys.index(tree[0]) for tree in least_trees(keys[i:j], hits[i:j], misses[i:j + 1])[1])
            for j in range(i + 1, n + 1)
        ]
        for i in range(n)
    ]


def best_of(keys, hits, misses):
    """Of the trees that cost least those with the least root; of these the one whose two trees are best."""
    if not keys:
        return None
    trees = least_trees(keys, hits, misses)[1]
    root = min(keys.index(tree[0]) for tree in trees)
    left = best_of(keys[:root], hits[:root], misses[:root + 1])
    right = best_of(keys[root + 1:], hits[root + 1:], misses[root + 1:])
    found = [tree for tree in trees if tree == (keys[root], left, right)]
    assert len(found) == 1
    return found[0]


def mixed_weights(seed, count, most):
    """Weights from 0 to most that look unordered, the same on every run."""
    weights = []
    for _ in range(count):
        seed = (seed * 1103515245 + 12345) % 2147483648
        weights.append((seed >> 8) % (most + 1))
    return weights


def mixed_order(seed, keys):
    """The keys in an order that looks unordered, the same on every run."""
    marks = mixed_weights(seed, len(keys), 1000000)
    return [key for mark, key in sorted(zip(marks, keys))]


def fewest_steps(n):
    """The fewest that the most steps of a tree of n keys can be: over all keys that may be its root."""
    fewest = [0]
    for keys in range(1, n + 1):
        fewest.append(1 + min(max(fewest[left], fewest[keys - 1 - left]) for left in range(keys)))
    return fewest[n]


def put_in(tree, word):
    """The tree with one more word, at the place where seeking it ends."""
    if tree is None:
        return (word, None, None)
    if word < tree[0]:
        return (tree[0], put_in(tree[1], word), tree[2])
    return (tree[0], tree[1], put_in(tree[2], word))


def put_in_order(words):
    tree = None
    for word in words:
        tree = put_in(tree, word)
    return tree


def from_the_top(tree):
    """The words, each ahead of those beneath it: put in by this order, they give the same tree."""
    return [] if tree is None else [tree[0]] + from_the_top(tree[1]) + from_the_top(tree[2])


def right_above(tree, word):
    """The word right above another one; None where nothing is above it."""
    above = None
    while tree[0] != word:
        above = tree[0]
        tree = tree[1] if word < tree[0] else tree[2]
    return above


def turned_up(tree, word):
    """Put in right ahead of the word that was above it, the key takes its place; all the rest falls as before."""
    above = right_above(tree, word)
    order = [other for other in from_the_top(tree) if other != word]
    order.insert(order.index(above), word)
    return put_in_order(order)


def written_of(tree):
    return "-" if tree is None else f"({written_of(tree[1])} {tree[0]} {written_of(tree[2])})"


def is_note(text):
    """Whether a text writes a tree of keys: written trees shrink to one dash, and their words stand as in the row."""
    words = re.findall("[a-z]+", text)
    if len(words) > 12 or any(len(word) > 8 for word in words) or words != sorted(set(words)):
        return False
    shrunk = 1
    while shrunk:
        text, shrunk = re.subn(r"\(- [a-z]+ -\)", "-", text)
    return text == "-"
