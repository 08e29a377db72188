"""Trees whose most steps are as few as can be."""

from seektree.checks import check_keys
from seektree.trees import check_tree, key_steps


# The middle key parts the rest into halves that differ by one key at most, and fewer keys never need more steps.
def halved(keys):
    if len(keys) == 0:
        return None
    middle = len(keys) // 2
    return (keys[middle], halved(keys[:middle]), halved(keys[middle + 1:]))


def even(keys):
    check_keys(keys)
    return halved(keys)


def most_steps(keys, tree):
    check_keys(keys)
    check_tree(keys, tree)
    return max(key_steps(tree, 0), default=0)
