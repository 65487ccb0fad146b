"""[5]: the text of a tree, and the tree of a text."""

import random
import re
import unittest

from blowntrees.errors import NotText
from blowntrees.listings import least_form
from blowntrees.texts import read_tree, written
from samples import E8, EMPTY, FEW, SMALL, TREES, row_tree, some_trees, star, twigs

WEIGHT = r"(?:0|-?[1-9]|-?[1-5][0-9]|-?60)"
KNOT = re.compile(rf"(?<![-0-9x)]){WEIGHT}\((?:x|{WEIGHT})(?: (?:x|{WEIGHT}))*\)")


def text_from(tree, place, parent, sequence):
    """Write a tree from a place on, the neighbours in a sequence of choice."""
    behind = [j if i == place else i for i, j in tree[1] if place in (i, j)]
    told = [text_from(tree, other, place, sequence) for other in behind if other != parent]
    text = str(tree[0][place])
    return text + "(" + " ".join(sequence(told)) + ")" if told else text


def is_text(text):
    """Tell it by drawing together the knots without knots in them."""
    if text == "" or "x" in text:
        return text == ""
    count = len(re.findall(r"-?[0-9]+", text))
    before = None
    while before != text:
        before, text = text, KNOT.sub("x", text)
    return count <= 16 and re.fullmatch(f"x|{WEIGHT}", text) is not None


def is_beginning(text):
    """Tell whether a text of a tree begins so."""
    closing = [")" * k for k in range(text.count("(") + 1)]
    return any(is_text(text + more + close) for more in ("", "1") for close in closing)


def longest_beginning(text):
    return max(k for k in range(len(text) + 1) if is_beginning(text[:k]))


WRONG = [
    # Weights: the lone minus, out of bounds, other signs.
    ("-", 1), ("--1", 1), ("- 1", 1), ("-(1)", 1), ("61", 1), ("-61", 2), ("-0", 1), ("00", 1),
    ("07", 1), ("+1", 0), ("1+", 1), ("100", 2), ("-100", 3), ("600", 2), ("601", 2), ("70", 1),
    ("99", 1), ("-70", 2), ("1.0", 1), ("1e1", 1), ("1_0", 1), ("0x1", 1), ("a", 0), ("None", 0),
    ("1(61)", 3), ("1(-61)", 4), ("1(-0)", 3), ("1(07)", 3), ("1(+1)", 2), ("1(2 61)", 5),
    # Blanks.
    (" ", 0), (" 1", 0), ("1 ", 1), ("1 2", 1), ("1( 2)", 2), ("1 (2)", 1), ("1(2 )", 4),
    ("1(2  3)", 4), ("1(2) ", 4), ("1(2)(3)", 4), ("1(2\t3)", 3), ("1\n", 1), ("\n", 0), ("1\r", 1),
    # Parentheses.
    ("(", 0), (")", 0), ("()", 0), ("(1)", 0), ("1()", 2), ("1)", 1), ("1(", 2), ("1(2", 3),
    ("1(2))", 4), ("1(2(3)", 6), ("1(2(3))4", 7), ("1((2))", 2), ("1[2]", 1), ("1(2,3)", 3),
    ("1(2)3", 4), ("1(2(3)4)", 6), ("1(2(3) 4", 8), ("1(2 3", 5), ("1(2 ", 4), ("1(-", 3),
    ("1(2(3)(4))", 6), ("1(2)x", 4), ("1(2)(", 4), ("1(2)-1", 4),
    # Figures that are not those from 0 to 9.
    ("\u0663", 0), ("1\u0663", 1), ("-\u0663", 1), ("1(\uff12)", 2), ("\u00b2", 0), ("1\u00b2", 1),
    ("\u2212" + "1", 0), ("1(2\u00a03)", 3), ("\x00", 0), ("1\x00", 1), ("\ud800", 0), ("x" * 1000, 0),
]


class Written(unittest.TestCase):
    def test_the_example(self):
        tree = ((-2, -1, -3, -7), ((0, 1), (1, 2), (1, 3)))
        self.assertEqual(written(tree), "-1(-2 -3 -7)")
        self.assertEqual(read_tree("-2(-1(-3 -7))"), least_form(tree))

    def test_known_trees(self):
        self.assertEqual(written(EMPTY), "")
        self.assertEqual(written(((0,), ())), "0")
        self.assertEqual(written(((-60,), ())), "-60")
        self.assertEqual(written(row_tree((-2, -2, -2))), "-2(-2 -2)")
        self.assertEqual(written(row_tree((10, 9))), "10(9)")
        self.assertEqual(written(star((3, 5, -1, 12, 40))), "-1(3(12 40 5))")
        self.assertEqual(written(E8), "-2(-2 -2(-2 -2(-2(-2(-2)))))")

    def test_written_is_the_least_text_of_all_places(self):
        for tree in TREES:
            texts = [text_from(tree, place, None, sorted) for place in range(len(tree[0]))]
            self.assertEqual(written(tree), min(texts, default=""))


class ReadTree(unittest.TestCase):
    def test_from_every_place_in_every_sequence(self):
        chance = random.Random(9)

        def shuffled(told):
            return chance.sample(told, len(told))

        for tree in TREES:
            form = least_form(tree)
            self.assertEqual(read_tree(written(tree)), form)
            for place in range(len(tree[0])):
                for sequence in (sorted, lambda told: sorted(told, reverse=True), list, shuffled):
                    self.assertEqual(read_tree(text_from(tree, place, None, sequence)), form)

    def test_the_empty_text(self):
        self.assertEqual(read_tree(""), EMPTY)

    def test_all_weights(self):
        for weight in range(-60, 61):
            self.assertEqual(read_tree(str(weight)), ((weight,), ()))
        for weight in (-1000, -101, -100, -99, -62, -61, 61, 62, 99, 100, 101, 600, 1000):
            with self.assertRaises(NotText):
                read_tree(str(weight))

    def test_sixteen_weights_and_no_more(self):
        row = "".join(f"{k}(" for k in range(1, 16)) + "16" + ")" * 15
        self.assertEqual(len(read_tree(row)[0]), 16)
        wide = "0(" + " ".join(["-5"] * 15) + ")"
        self.assertEqual(read_tree(wide), least_form(star((0,) + (-5,) * 15)))
        deep = "1(" * 15 + "1"
        both = "0(" + " ".join(["-5(3)"] * 7) + " 8)"
        for text, place in [(wide[:-1] + " 1)", len(wide) - 1), (wide[:-1] + "(1))", len(wide) - 1),
                            (deep + "(1)" + ")" * 15, len(deep)), (deep + " 1" + ")" * 15, len(deep)),
                            (deep + ")" * 5 + " 1" + ")" * 10, len(deep) + 5), (deep, len(deep)),
                            (deep + ")" * 15 + " 1", len(deep) + 15), (wide[:-1] + " ", len(wide) - 1),
                            (both[:-1] + " 1)", len(both) - 1), (both[:-1] + "(", len(both) - 1),
                            (wide[:-1] + "00)", len(wide))]:
            with self.subTest(text=text):
                self.refused(text, place)

    def refused(self, text, place):
        with self.assertRaises(NotText) as caught:
            read_tree(text)
        self.assertEqual(caught.exception.place, place)
        self.assertIs(type(caught.exception.place), int)

    def test_wrong_texts(self):
        for text, place in WRONG:
            with self.subTest(text=text):
                self.refused(text, place)
                self.assertEqual(longest_beginning(text), place)

    def test_texts_with_one_sign_changed(self):
        chance = random.Random(10)
        signs = "0123456789-() +a\n\u0661"
        right = wrong = 0
        for text in sorted({written(tree) for tree in FEW + SMALL[::9] + some_trees(11, 12, (16,), (-60, 7))}):
            for _ in range(40):
                at = chance.randrange(len(text) + 1)
                new = chance.choice([text[:at] + chance.choice(signs) + text[at:], text[:at] + text[at + 1:],
                                     text[:at] + chance.choice(signs) + text[at + 1:], text[:at]])
                if is_text(new):
                    read_tree(new)
                    right += 1
                else:
                    self.refused(new, longest_beginning(new))
                    wrong += 1
        self.assertGreater(min(right, wrong), 100)

    def test_all_short_strings(self):
        strings = [""]
        for _ in range(5):
            strings = [text + sign for text in strings for sign in "-016( )"]
            for text in strings:
                if is_text(text):
                    self.assertLessEqual(1, len(read_tree(text)[0]))
                else:
                    self.refused(text, longest_beginning(text))

    def test_long_strings(self):
        self.refused("1(" * 100000, 31)
        self.refused("1" * 100000, 2)
        self.refused("1" + ")" * 100000, 1)
        self.refused(written(twigs((-2,) * 16)) + " " * 100000, len(written(twigs((-2,) * 16))))


if __name__ == "__main__":
    unittest.main()
