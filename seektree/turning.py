"""Turning keys up in trees, and the turns that lead from one tree to another."""

from seektree.checks import check_keys
from seektree.errors import AtRoot, NoKey
from seektree.trees import check_tree


def left_up(tree):
    left = tree[1]
    return (left[0], left[1], (tree[0], left[2], tree[2]))


def right_up(tree):
    right = tree[2]
    return (right[0], (tree[0], tree[1], right[1]), right[2])


# The word is in the tree and not its root, so the tree on the side that it lies on is never None.
def turned_in(tree, word):
    if word < tree[0]:
        if tree[1][0] == word:
            return left_up(tree)
        return (tree[0], turned_in(tree[1], word), tree[2])
    if tree[2][0] == word:
        return right_up(tree)
    return (tree[0], tree[1], turned_in(tree[2], word))


# Bringing a root up takes fewer turns than there are keys, and then it never moves again: so for n keys no more than
# n - 1 turns and those of the two parts, which have n - 1 keys together, and never more than half of n times (n - 1).
def turns_between(one, other):
    if other is None:
        return []
    root = other[0]
    told = []
    tree = one
    while tree[0] != root:
        tree = turned_in(tree, root)
        told.append(root)
    return told + turns_between(tree[1], other[1]) + turns_between(tree[2], other[2])


def turned(keys, tree, word):
    check_keys(keys)
    check_tree(keys, tree)
    if word not in keys:
        raise NoKey("the word is no key")
    if tree[0] == word:
        raise AtRoot("nothing is above the key")
    return turned_in(tree, word)


def turns(keys, one, other):
    check_keys(keys)
    check_tree(keys, one)
    check_tree(keys, other)
    return turns_between(one, other)
