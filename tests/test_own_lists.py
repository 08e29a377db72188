"""Point 1: what is handed in is neither changed nor kept, and no two lists of what is told are one."""

import unittest

from seektree.best import best, least, roots, worths
from seektree.errors import SeekError
from seektree.trees import cost, row_of, seek

KEYS = ["ant", "bee", "cat", "dog"]
HITS = [4, 0, 7, 1]
MISSES = [1, 0, 3, 0, 2]
TREE = ("bee", ("ant", None, None), ("cat", None, ("dog", None, None)))

CALLS = (
    lambda keys, hits, misses: seek(keys, TREE, "cat"),
    lambda keys, hits, misses: seek(keys, TREE, "cow"),
    lambda keys, hits, misses: cost(keys, hits, misses, TREE),
    worths,
    roots,
    least,
    best,
)


class HandedIn(unittest.TestCase):
    def test_is_not_changed(self):
        for call in CALLS:
            keys, hits, misses = list(KEYS), list(HITS), list(MISSES)
            call(keys, hits, misses)
            self.assertEqual((keys, hits, misses), (KEYS, HITS, MISSES))

    def test_is_not_changed_by_a_refusal(self):
        wrong = (
            (["bee", "ant", "cat", "dog"], HITS, MISSES),
            (KEYS, HITS + [1], MISSES),
            (KEYS, HITS, MISSES[:4]),
            (KEYS[:3], HITS[:3], MISSES[:4]),
        )
        for call in CALLS:
            for case in wrong:
                keys, hits, misses = [list(part) for part in case]
                try:
                    call(keys, hits, misses)
                except SeekError:
                    pass
                self.assertEqual((keys, hits, misses), case)

    def test_may_be_changed_later(self):
        for call in CALLS:
            keys, hits, misses = list(KEYS), list(HITS), list(MISSES)
            told = call(keys, hits, misses)
            before = repr(told)
            keys[0] = "aaa"
            hits[0] = 1000000
            misses.clear()
            self.assertEqual(repr(told), before)
            self.assertEqual(repr(call(list(KEYS), list(HITS), list(MISSES))), before)

    def test_the_same_lists_with_other_weights_tell_anew(self):
        keys, hits, misses = ["ant", "bee"], [1, 0], [0, 0, 0]
        self.assertEqual(best(keys, hits, misses), ("ant", None, ("bee", None, None)))
        self.assertEqual(least(keys, hits, misses), 1)
        hits[1] = 5
        self.assertEqual(best(keys, hits, misses), ("bee", ("ant", None, None), None))
        self.assertEqual(least(keys, hits, misses), 7)
        keys[0] = "ape"
        self.assertEqual(best(keys, hits, misses), ("bee", ("ape", None, None), None))


class Told(unittest.TestCase):
    def test_no_two_lists_are_one(self):
        for function in (worths, roots):
            for hits, misses in ((HITS, MISSES), ([0] * 4, [0] * 5)):
                one = function(KEYS, hits, misses)
                other = function(KEYS, hits, misses)
                lists = [one, other] + one + other
                self.assertEqual(len({id(told) for told in lists}), len(lists))
                self.assertFalse({id(told) for told in lists} & {id(KEYS), id(hits), id(misses)})

    def test_one_list_changes_without_another(self):
        for function in (worths, roots):
            told = function(KEYS, HITS, MISSES)
            fresh = function(KEYS, HITS, MISSES)
            for place in range(len(told)):
                rest = fresh[:place] + fresh[place + 1:]
                told[place].append(99)
                told[place][0] = -1
                self.assertEqual(told[:place] + told[place + 1:], rest)
                told[place] = list(fresh[place])
            self.assertEqual(function(KEYS, HITS, MISSES), fresh)

    def test_changing_what_is_told_changes_no_later_answer(self):
        for function in (worths, roots):
            fresh = repr(function(KEYS, HITS, MISSES))
            told = function(KEYS, HITS, MISSES)
            for row in told:
                row.clear()
            told.clear()
            self.assertEqual(repr(function(KEYS, HITS, MISSES)), fresh)

    def test_the_empty_tables_are_the_askers_own(self):
        worths([], [], [3])[0].append(5)
        roots([], [], [3]).append(5)
        self.assertEqual(worths([], [], [3]), [[0]])
        self.assertEqual(roots([], [], [3]), [])

    def test_rows(self):
        for tree in (None, TREE):
            row = row_of(tree)
            fresh = list(row)
            row.append("zebra")
            self.assertEqual(row_of(tree), fresh)

    def test_kinds(self):
        self.assertIs(type(row_of(TREE)), list)
        self.assertIs(type(seek(KEYS, TREE, "ant")), tuple)
        self.assertIs(type(seek(KEYS, TREE, "cow")), tuple)
        self.assertIs(type(cost(KEYS, HITS, MISSES, TREE)), int)
        self.assertIs(type(least(KEYS, HITS, MISSES)), int)
        self.assertIs(type(best(KEYS, HITS, MISSES)), tuple)
        for table in (worths(KEYS, HITS, MISSES), roots(KEYS, HITS, MISSES)):
            self.assertIs(type(table), list)
            for row in table:
                self.assertIs(type(row), list)
                self.assertEqual({type(number) for number in row}, {int})


if __name__ == "__main__":
    unittest.main()
