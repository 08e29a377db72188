"""Point 1: what is handed in is neither changed nor kept, and no two lists of what is told are one."""

import unittest

from seektree.best import best, least, roots, worths
from seektree.errors import SeekError
from seektree.even import even, most_steps
from seektree.notes import read, shown
from seektree.trees import cost, row_of, seek
from seektree.turning import turned, turns

KEYS = ["ant", "bee", "cat", "dog"]
HITS = [4, 0, 7, 1]
MISSES = [1, 0, 3, 0, 2]
TREE = ("bee", ("ant", None, None), ("cat", None, ("dog", None, None)))
OTHER = ("dog", ("cat", ("bee", ("ant", None, None), None), None), None)

CALLS = (
    lambda keys, hits, misses: seek(keys, TREE, "cat"),
    lambda keys, hits, misses: seek(keys, TREE, "cow"),
    lambda keys, hits, misses: cost(keys, hits, misses, TREE),
    worths,
    roots,
    least,
    best,
    lambda keys, hits, misses: even(keys),
    lambda keys, hits, misses: most_steps(keys, TREE),
    lambda keys, hits, misses: turned(keys, TREE, "dog"),
    lambda keys, hits, misses: turns(keys, TREE, OTHER),
    lambda keys, hits, misses: shown(keys, TREE),
)


class HandedIn(unittest.TestCase):
    def test_is_not_changed(self):
        for call in CALLS:
            keys, hits, misses = list(KEYS), list(HITS), list(MISSES)
            call(keys, hits, misses)
            self.assertEqual((keys, hits, misses), (KEYS, HITS, MISSES))

    def test_is_not_changed_by_a_refusal(self):
        wrong = (
            (["bee", "ant", "cat", "dog"], HITS, MISSES),
            (KEYS, HITS + [1], MISSES),
            (KEYS, HITS, MISSES[:4]),
            (KEYS[:3], HITS[:3], MISSES[:4]),
        )
        for call in CALLS:
            for case in wrong:
                keys, hits, misses = [list(part) for part in case]
                try:
                    call(keys, hits, misses)
                except SeekError:
                    pass
                self.assertEqual((keys, hits, misses), case)

    def test_may_be_changed_later(self):
        for call in CALLS:
            keys, hits, misses = list(KEYS), list(HITS), list(MISSES)
            told = call(keys, hits, misses)
            before = repr(told)
            keys[0] = "aaa"
            hits[0] = 1000000
            misses.clear()
            self.assertEqual(repr(told), before)
            self.assertEqual(repr(call(list(KEYS), list(HITS), list(MISSES))), before)

    def test_the_same_lists_with_other_weights_tell_anew(self):
        keys, hits, misses = ["ant", "bee"], [1, 0], [0, 0, 0]
        self.assertEqual(best(keys, hits, misses), ("ant", None, ("bee", None, None)))
        self.assertEqual(least(keys, hits, misses), 1)
        hits[1] = 5
        self.assertEqual(best(keys, hits, misses), ("bee", ("ant", None, None), None))
        self.assertEqual(least(keys, hits, misses), 7)
        keys[0] = "ape"
        self.assertEqual(best(keys, hits, misses), ("bee", ("ape", None, None), None))

    def test_the_same_list_with_other_keys_tells_anew(self):
        keys = ["ant", "bee", "cat"]
        self.assertEqual(even(keys), ("bee", ("ant", None, None), ("cat", None, None)))
        keys[1] = "bug"
        self.assertEqual(even(keys), ("bug", ("ant", None, None), ("cat", None, None)))
        keys.clear()
        self.assertIsNone(even(keys))
        self.assertEqual(most_steps(keys, None), 0)
        self.assertEqual(shown(keys, None), "-")
        self.assertEqual(turns(keys, None, None), [])

    def test_trees_stay_as_they_were(self):
        before = repr((TREE, OTHER))
        for key in ("ant", "cat", "dog"):
            turned(KEYS, TREE, key)
        turns(KEYS, TREE, OTHER)
        most_steps(KEYS, TREE)
        shown(KEYS, TREE)
        self.assertEqual(repr((TREE, OTHER)), before)


class Told(unittest.TestCase):
    def test_no_two_lists_are_one(self):
        for function in (worths, roots):
            for hits, misses in ((HITS, MISSES), ([0] * 4, [0] * 5)):
                one = function(KEYS, hits, misses)
                other = function(KEYS, hits, misses)
                lists = [one, other] + one + other
                self.assertEqual(len({id(told) for told in lists}), len(lists))
                self.assertFalse({id(told) for told in lists} & {id(KEYS), id(hits), id(misses)})

    def test_one_list_changes_without_another(self):
        for function in (worths, roots):
            told = function(KEYS, HITS, MISSES)
            fresh = function(KEYS, HITS, MISSES)
            for place in range(len(told)):
                rest = fresh[:place] + fresh[place + 1:]
                told[place].append(99)
                told[place][0] = -1
                self.assertEqual(told[:place] + told[place + 1:], rest)
                told[place] = list(fresh[place])
            self.assertEqual(function(KEYS, HITS, MISSES), fresh)

    def test_changing_what_is_told_changes_no_later_answer(self):
        for function in (worths, roots):
            fresh = repr(function(KEYS, HITS, MISSES))
            told = function(KEYS, HITS, MISSES)
            for row in told:
                row.clear()
            told.clear()
            self.assertEqual(repr(function(KEYS, HITS, MISSES)), fresh)

    def test_the_empty_tables_are_the_askers_own(self):
        worths([], [], [3])[0].append(5)
        roots([], [], [3]).append(5)
        self.assertEqual(worths([], [], [3]), [[0]])
        self.assertEqual(roots([], [], [3]), [])

    def test_rows(self):
        for tree in (None, TREE):
            row = row_of(tree)
            fresh = list(row)
            row.append("zebra")
            self.assertEqual(row_of(tree), fresh)

    def test_turns(self):
        for one, other in ((TREE, OTHER), (OTHER, TREE), (TREE, TREE)):
            told = turns(KEYS, one, other)
            fresh = turns(KEYS, one, other)
            before = list(fresh)
            self.assertIsNot(told, fresh)
            told.append("zebra")
            told[0] = "yak"
            self.assertEqual(fresh, before)
            self.assertEqual(turns(KEYS, one, other), before)
        turns([], None, None).append("zebra")
        self.assertEqual(turns([], None, None), [])

    def test_trees_are_tuples_all_through(self):
        for tree in (even(KEYS), turned(KEYS, TREE, "dog"), turned(KEYS, TREE, "cat"), read(shown(KEYS, TREE))):
            parts = [tree]
            for part in parts:
                self.assertIs(type(part), tuple)
                parts.extend(below for below in part[1:] if below is not None)
            self.assertEqual(len(parts), len(KEYS))

    def test_kinds(self):
        self.assertIs(type(most_steps(KEYS, TREE)), int)
        self.assertIs(type(most_steps([], None)), int)
        self.assertIs(type(turns(KEYS, TREE, OTHER)), list)
        self.assertIs(type(shown(KEYS, TREE)), str)
        self.assertIs(type(row_of(TREE)), list)
        self.assertIs(type(seek(KEYS, TREE, "ant")), tuple)
        self.assertIs(type(seek(KEYS, TREE, "cow")), tuple)
        self.assertIs(type(cost(KEYS, HITS, MISSES, TREE)), int)
        self.assertIs(type(least(KEYS, HITS, MISSES)), int)
        self.assertIs(type(best(KEYS, HITS, MISSES)), tuple)
        for table in (worths(KEYS, HITS, MISSES), roots(KEYS, HITS, MISSES)):
            self.assertIs(type(table), list)
            for row in table:
                self.assertIs(type(row), list)
                self.assertEqual({type(number) for number in row}, {int})


if __name__ == "__main__":
    unittest.main()
