"""Tests of ordermerge.order_text: texts of bases and orders."""

import unittest
from itertools import permutations

from ordermerge.bases import Base
from ordermerge.errors import InvalidText
from ordermerge.order_text import dump_base, dump_order, load_base, load_order
from tests.helpers import ErrorCase, forty_names, no_strings

# Texts that are neither those of a base nor those of an order of any base.
NO_TEXTS = [
    "", " ", "  ", "\n", "\n\n", " \n",
    " a b c d", "a b c d ", "a b  c d", "a  b c d", "a b c  d", "a b c d  ", "  a b c d", " a b c d ",
    "a b c d\n", "\na b c d", "a\nb c d", "a b\n c d", "a b \nc d", "a b c\nd", "a b c d\na b c d",
    "A b c d", "a b C d", "a 1 c d", "a b c d1", "a,b c d", "a, b, c, d", "a b c abcdefghi", "a b - d", "[a b c d]",
    "a a c d", "a b c a", "a b c d d", "a b c d a b c d",
]


class DumpTest(unittest.TestCase):
    def test_examples(self):
        base = Base(["a", "b", "c", "d"])
        self.assertEqual([dump_base(base), dump_order(base, ["b", "d", "c", "a"])], ["a b c d", "b d c a"])

    def test_one_item(self):
        self.assertEqual(dump_base(Base(["only"])), "only")
        self.assertEqual(dump_order(Base(["only"]), ["only"]), "only")

    def test_longer_names(self):
        base = Base(["zoo", "abcdefgh", "m"])
        self.assertEqual(dump_base(base), "zoo abcdefgh m")
        self.assertEqual(dump_order(base, ["m", "zoo", "abcdefgh"]), "m zoo abcdefgh")


class LoadBaseTest(ErrorCase):
    def test_example(self):
        self.assertEqual(load_base("x y"), Base(["x", "y"]))
        self.assertEqual(repr(load_base("x y")), "Base(['x', 'y'])")

    def test_loaded_again_as_it_was(self):
        for names in [["only"], ["a", "b"], ["zoo", "abcdefgh", "m"], forty_names()]:
            base = Base(names)
            with self.subTest(names=names):
                self.assertEqual(load_base(dump_base(base)), base)
                self.assertEqual(load_base(" ".join(names)).names(), names)

    def test_forty_one_names(self):
        self.assertEqual(len(load_base(" ".join(forty_names()))), 40)
        self.check_error(InvalidText(1), load_base, " ".join(forty_names() + ["last"]))

    def test_no_texts(self):
        for text in NO_TEXTS:
            with self.subTest(text=text):
                self.check_error(InvalidText(1), load_base, text)

    def test_no_strings(self):
        for value in no_strings() + [["a", "b"], ("a", "b"), b"a b", Base(["a", "b"])]:
            with self.subTest(value=value):
                self.check_error(InvalidText(0), load_base, value)

    def test_long_texts(self):
        self.check_error(InvalidText(1), load_base, "a" * 60000)
        self.check_error(InvalidText(1), load_base, "a " * 30000)
        self.check_error(InvalidText(1), load_base, " " * 60000)


class LoadOrderTest(ErrorCase):
    def setUp(self):
        self.base = Base(["a", "b", "c", "d"])

    def test_examples(self):
        self.assertEqual(load_order(self.base, "b d c a"), ["b", "d", "c", "a"])
        self.check_error(InvalidText(1), load_order, self.base, "b d  c a")

    def test_loaded_again_as_it_was(self):
        for names in permutations("abcd"):
            order = list(names)
            with self.subTest(order=order):
                self.assertEqual(load_order(self.base, dump_order(self.base, order)), order)
        self.assertEqual(load_order(Base(["only"]), "only"), ["only"])

    def test_forty_items(self):
        base = Base(forty_names())
        order = sorted(forty_names())
        self.assertEqual(load_order(base, " ".join(order)), order)
        self.assertEqual(load_order(base, dump_order(base, order)), order)
        self.check_error(InvalidText(1), load_order, base, " ".join(order + ["last"]))
        self.check_error(InvalidText(1), load_order, base, " ".join(order[:39]))

    def test_no_texts(self):
        for text in NO_TEXTS:
            with self.subTest(text=text):
                self.check_error(InvalidText(1), load_order, self.base, text)

    def test_no_orders_of_this_base(self):
        for text in ["a b c e", "e a b c d", "a b c d e", "a b c", "d", "x", "x y", "aa b c d", "abcd"]:
            with self.subTest(text=text):
                self.check_error(InvalidText(1), load_order, self.base, text)

    def test_no_strings(self):
        for value in no_strings() + [["a", "b", "c", "d"], ("a", "b", "c", "d"), b"a b c d", self.base]:
            with self.subTest(value=value):
                self.check_error(InvalidText(0), load_order, self.base, value)

    def test_the_result_is_a_new_list(self):
        one, two = load_order(self.base, "b d c a"), load_order(self.base, "b d c a")
        one.clear()
        self.assertEqual(two, ["b", "d", "c", "a"])
        self.assertIs(type(two), list)


if __name__ == "__main__":
    unittest.main()
