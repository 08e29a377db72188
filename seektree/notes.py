"""Trees written as texts, and read from them."""

from seektree.checks import MOST_KEYS, are_keys, check_keys
from seektree.errors import BadText
from seektree.trees import check_tree, row_of


def written(tree):
    if tree is None:
        return "-"
    return "(" + written(tree[1]) + " " + tree[0] + " " + written(tree[2]) + ")"


# A slice, since the place may lie behind the end of the text.
def sign_at(text, place):
    return text[place:place + 1]


def behind(text, place, sign):
    if sign_at(text, place) != sign:
        raise BadText("the text writes no tree")
    return place + 1


def word_end(text, start):
    end = start
    while "a" <= sign_at(text, end) <= "z":
        end += 1
    return end


# Tells the tree and the place behind it, since what stands there is for the asker to read on.
def tree_at(text, place):
    if sign_at(text, place) == "-":
        return (None, place + 1)
    left = tree_at(text, behind(text, place, "("))
    start = behind(text, left[1], " ")
    end = word_end(text, start)
    right = tree_at(text, behind(text, end, " "))
    return ((text[start:end], left[0], right[0]), behind(text, right[1], ")"))


def shown(keys, tree):
    check_keys(keys)
    check_tree(keys, tree)
    return written(tree)


def read(text):
    # Each ( brings a word of its own. Asked ahead of reading, this also bounds how deep the reading goes.
    if text.count("(") > MOST_KEYS:
        raise BadText("the text has more words than keys can be")
    found = tree_at(text, 0)
    if found[1] != len(text):
        raise BadText("the text goes on behind the tree")
    if not are_keys(row_of(found[0])):
        raise BadText("the tree is none of any keys")
    return found[0]
