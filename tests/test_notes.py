"""Point 13: trees written as texts, and read from them."""

import unittest

from reckoning import KEYS12, all_trees, is_note, leaning_left, leaning_right, mixed_order, put_in_order, written_of
from seektree.errors import BadText
from seektree.notes import read, shown

BEGINNINGS = ["a", "aa", "ab", "abc", "abcdefgh", "b"]
LONG12 = ["zzzzzzz" + letter for letter in "abcdefghijkl"]
SIGNS = "\t\n" + "".join(chr(code) for code in range(32, 127) if chr(code) != "%")

NO_NOTES = (
    "",
    " ",
    "\n",
    "\t",
    "--",
    "- -",
    "-\n",
    "\n-",
    " -",
    "- ",
    "(-)",
    "()",
    "(",
    ")",
    "(-",
    "(- ",
    "(- ant",
    "(- ant ",
    "(- ant -",
    "- ant -)",
    "- ant -",
    "ant",
    "(ant)",
    "(ant - -)",
    "(- - ant)",
    "(- ant)",
    "(ant -)",
    "( ant )",
    "(-ant-)",
    "(- ant-)",
    "(-ant -)",
    "(-  ant -)",
    "(- ant  -)",
    "( - ant -)",
    "(- ant - )",
    " (- ant -)",
    "(- ant -) ",
    "(- ant -)\n",
    "(- ant -)\t",
    "(-\tant -)",
    "(- ant\t-)",
    "(-\nant -)",
    "(- ant\n-)",
    "(- an t -)",
    "(- Ant -)",
    "(- anT -)",
    "(- ant1 -)",
    "(- 1 -)",
    "(- a-t -)",
    "(- ( -)",
    "(- ) -)",
    "[- ant -]",
    "{- ant -}",
    "(_ ant _)",
    "(~ ant ~)",
    "(- ant -))",
    "((- ant -)",
    "((- ant -))",
    "(- ant -)(- bee -)",
    "(- ant -) (- bee -)",
    "(- ant -)-",
    "-(- ant -)",
    "(None ant None)",
    "('ant', None, None)",
    "(- ant (- bee -)",
    "(- ant (- bee -)))",
    "(- ant - bee -)",
    "(- ant (- bee -) -)",
    "(- ant(- bee -))",
    "((- ant -)bee -)",
)

# Each writes a tree, but one of words that are no keys.
NO_KEYS = (
    "(-  -)",
    "((-  -) ant -)",
    "(- ant (-  -))",
    "(- abcdefghi -)",
    "(- ant (- beebeebee -))",
    "((- abcdefghi -) b -)",
    "(- aaaaaaaaaaaaaaaaaaaa -)",
    "(- bee (- ant -))",
    "((- bee -) ant -)",
    "((- ant -) cat (- bee -))",
    "((- bee -) ant (- cat -))",
    "(- ab (- a -))",
    "(- ant (- ant -))",
    "((- ant -) ant -)",
    "((- ant -) bee (- ant -))",
    "((- ant -) bee (- bee -))",
)


def with_one_sign_changed(text, signs):
    for place in range(len(text) + 1):
        yield text[:place] + text[place + 1:]
        for sign in signs:
            yield text[:place] + sign + text[place:]
            yield text[:place] + sign + text[place + 1:]


def rising(count):
    return [f"{chr(97 + k // 26)}{chr(97 + k % 26)}" for k in range(count)]


class Told(unittest.TestCase):
    def all_in_tuples(self, tree):
        if tree is not None:
            self.assertIs(type(tree), tuple)
            self.assertEqual(len(tree), 3)
            self.assertIs(type(tree[0]), str)
            self.all_in_tuples(tree[1])
            self.all_in_tuples(tree[2])

    def hold(self, keys, tree):
        text = shown(keys, tree)
        self.assertIs(type(text), str)
        self.assertEqual(text, written_of(tree))
        self.assertEqual(read(text), tree)
        self.all_in_tuples(read(text))

    def test_the_documents_own(self):
        tree = ("ant", None, ("bee", None, None))
        self.assertEqual(shown(["ant", "bee"], tree), "(- ant (- bee -))")
        self.assertEqual(read("(- ant (- bee -))"), tree)

    def test_by_hand(self):
        tree = ("bee", ("ant", None, None), ("cat", None, None))
        self.assertEqual(shown(["ant", "bee", "cat"], tree), "((- ant -) bee (- cat -))")
        self.assertEqual(read("((- ant -) bee (- cat -))"), tree)
        self.assertEqual(shown(["ant", "bee"], ("bee", ("ant", None, None), None)), "((- ant -) bee -)")
        self.assertEqual(read("((- ant -) bee -)"), ("bee", ("ant", None, None), None))

    def test_no_keys(self):
        self.assertEqual(shown([], None), "-")
        self.assertIsNone(read("-"))

    def test_one_key(self):
        for key in ("a", "z", "abcdefgh", "zzzzzzzz"):
            self.assertEqual(shown([key], (key, None, None)), f"(- {key} -)")
            self.assertEqual(read(f"(- {key} -)"), (key, None, None))

    def test_every_tree_of_a_few_keys(self):
        for n in range(7):
            for tree in all_trees(BEGINNINGS[:n]):
                self.hold(BEGINNINGS[:n], tree)

    def test_trees_of_twelve_keys(self):
        for keys in (KEYS12, LONG12, list("abcdefghijkl")):
            self.hold(keys, leaning_left(keys))
            self.hold(keys, leaning_right(keys))
            for seed in range(60):
                self.hold(keys, put_in_order(mixed_order(seed, keys)))


class BadTexts(unittest.TestCase):
    def test_no_tree(self):
        for text in NO_NOTES:
            with self.subTest(text=text):
                self.assertRaises(BadText, read, text)

    def test_trees_of_no_keys(self):
        for text in NO_KEYS:
            with self.subTest(text=text):
                self.assertRaises(BadText, read, text)

    def test_thirteen_words_and_more(self):
        for count in (13, 14, 20, 26, 30):
            for tree in (leaning_left(rising(count)), leaning_right(rising(count)),
                         put_in_order(mixed_order(count, rising(count)))):
                self.assertRaises(BadText, read, written_of(tree))

    def test_more_behind_the_end_or_ahead(self):
        for note in ("-", "(- ant -)", "(- ant (- bee -))", written_of(leaning_left(KEYS12))):
            for sign in SIGNS:
                self.assertRaises(BadText, read, note + sign)
                self.assertRaises(BadText, read, sign + note)
            for more in (note, " " + note, "\n" + note, " " * (400 - len(note)), ")" * (400 - len(note))):
                self.assertRaises(BadText, read, note + more)

    def test_every_sign_alone(self):
        for sign in SIGNS:
            if sign != "-":
                self.assertRaises(BadText, read, sign)

    def test_every_beginning_and_end_of_a_note(self):
        note = written_of(put_in_order(["dog", "bee", "ant", "cat", "eel"]))
        self.assertEqual(read(note), put_in_order(["dog", "bee", "ant", "cat", "eel"]))
        for place in range(1, len(note)):
            self.assertRaises(BadText, read, note[:place])
            self.assertRaises(BadText, read, note[place:])

    def test_of_400_signs(self):
        for sign in SIGNS.replace("(", ""):
            self.assertRaises(BadText, read, sign * 400)
        self.assertRaises(BadText, read, "(- " + "a" * 394 + " -)")
        self.assertRaises(BadText, read, "(-" + " " * 393 + "ant -)")
        self.assertRaises(BadText, read, ("(- ant -)" * 30 + ")" * 200)[:400])
        long = written_of(leaning_right(["aaaaaa" + word for word in rising(30)]))
        self.assertEqual((len(long), long.count("(")), (391, 30))
        self.assertRaises(BadText, read, long)

    def test_of_30_brackets(self):
        for count in range(1, 31):
            for text in ("(" * count, "(" * count + ")" * count, "(" * count + "-", "(- a " * count,
                         "(" * count + "-" + " a -)" * count, "(" * count + "-" + ")" * count):
                if text != "(- a -)":
                    self.assertRaises(BadText, read, text)

    def test_somewhat_beyond_the_bounds(self):
        for text in ("(" * 40, "(" * 400, "-" * 420, "(- ant -)" + " " * 420, written_of(leaning_left(rising(40)))):
            self.assertRaises(BadText, read, text)


class OneSignPutInLeftOutOrChanged(unittest.TestCase):
    def hold(self, note, signs):
        taken = refused = 0
        self.assertTrue(is_note(note))
        for text in with_one_sign_changed(note, signs):
            if is_note(text):
                taken += 1
                self.assertEqual(written_of(read(text)), text)
            else:
                refused += 1
                self.assertRaises(BadText, read, text)
        return taken, refused

    def test_of_every_tree_of_a_few_keys(self):
        for n in range(5):
            for tree in all_trees(["ab", "b", "bc", "d"][:n]):
                self.hold(written_of(tree), "\t\n ()-[]{}Aa0z")

    def test_by_every_sign(self):
        for words in (["m"], ["bee", "ant", "cat"], ["a", "abcdefgh", "b"]):
            taken, refused = self.hold(written_of(put_in_order(words)), SIGNS)
            # A letter put in or changed may write another tree; no other sign does.
            self.assertGreater(taken, 0)
            self.assertGreater(refused, 1000)

    def test_of_twelve_keys(self):
        for keys in (KEYS12, LONG12):
            for tree in (leaning_left(keys), leaning_right(keys), put_in_order(mixed_order(5, keys))):
                self.hold(written_of(tree), "\t\n ()-Aa0z")

    def test_by_signs_that_are_no_letters(self):
        note = "((- ant -) bee (- cat -))"
        for sign in "AZ09()-\t\n `{@[_.,":
            for place in range(len(note) + 1):
                self.assertRaises(BadText, read, note[:place] + sign + note[place:])
                if note[place:place + 1] not in ("", sign):
                    self.assertRaises(BadText, read, note[:place] + sign + note[place + 1:])


if __name__ == "__main__":
    unittest.main()
