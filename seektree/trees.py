"""Trees of keys: their rows, seeking in them, and what they cost."""

from seektree.checks import check_keys, check_weights
from seektree.errors import NoTree


def row_of(tree):
    if tree is None:
        return []
    return row_of(tree[1]) + [tree[0]] + row_of(tree[2])


# This stands here and not with the other checks, since it needs row_of, and no two files draw from one another.
def check_tree(keys, tree):
    if row_of(tree) != keys:
        raise NoTree("the tree's row is not the keys")


def gap_of(keys, word):
    return len([key for key in keys if key < word])


def seek(keys, tree, word):
    check_keys(keys)
    check_tree(keys, tree)
    steps = 0
    rest = tree
    while rest is not None:
        steps += 1
        if word == rest[0]:
            return ("key", steps)
        rest = rest[1] if word < rest[0] else rest[2]
    return ("gap", gap_of(keys, word), steps)


def key_steps(tree, above):
    if tree is None:
        return []
    return key_steps(tree[1], above + 1) + [above + 1] + key_steps(tree[2], above + 1)


# Gaps are told by where seeking ends, not by words that lie in them: between a and aa there is no word.
def gap_steps(tree, above):
    if tree is None:
        return [above]
    return gap_steps(tree[1], above + 1) + gap_steps(tree[2], above + 1)


def weighed(weights, steps):
    return sum([weight * step for weight, step in zip(weights, steps)])


def cost(keys, hits, misses, tree):
    check_keys(keys)
    check_weights(keys, hits, misses)
    check_tree(keys, tree)
    return weighed(hits, key_steps(tree, 0)) + weighed(misses, gap_steps(tree, 0))
