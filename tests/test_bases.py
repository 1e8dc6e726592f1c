"""Tests of names and of class Base in ordermerge.bases."""

import unittest

from ordermerge.bases import MAX_ITEMS, Base, is_name
from ordermerge.errors import InvalidBase, UnknownItem
from tests.helpers import AlwaysEqual, ErrorCase, forty_names, no_lists, no_names, no_strings


class NamesTest(unittest.TestCase):
    def test_example(self):
        self.assertEqual([is_name("ann"), is_name("Ann"), is_name("")], [True, False, False])

    def test_names(self):
        for value in ["a", "z", "m", "ab", "zz", "abcdefg", "abcdefgh", "zzzzzzzz", "aaaa"]:
            with self.subTest(value=value):
                self.assertIs(is_name(value), True)

    def test_every_letter_is_accepted(self):
        for letter in "abcdefghijklmnopqrstuvwxyz":
            with self.subTest(letter=letter):
                self.assertIs(is_name(letter), True)

    def test_no_other_character_is_accepted(self):
        for code in [*range(0, 97), *range(123, 1000)]:
            for value in [chr(code), "a" + chr(code), chr(code) + "a", "ab" + chr(code) + "cd"]:
                with self.subTest(value=value):
                    self.assertIs(is_name(value), False)

    def test_no_names(self):
        for value in no_names():
            with self.subTest(value=value):
                self.assertIs(is_name(value), False)

    def test_length(self):
        for length in range(12):
            with self.subTest(length=length):
                self.assertIs(is_name("q" * length), 1 <= length <= 8)


class BaseTest(ErrorCase):
    def check_problem(self, problem, position, items):
        with self.subTest(items=items):
            self.check_error(InvalidBase(problem, position), Base, items)

    def test_limit(self):
        self.assertEqual(repr(MAX_ITEMS), "40")

    def test_examples(self):
        base = Base(["a", "b", "c", "d"])
        self.assertEqual([len(base), base == Base(["a", "b", "c", "d"])], [4, True])
        self.assertEqual(repr([base]), "[Base(['a', 'b', 'c', 'd'])]")
        self.check_problem("duplicate", 2, ["a", "b", "a"])

    def test_one_item(self):
        base = Base(["only"])
        self.assertEqual(base.names(), ["only"])
        self.assertEqual(len(base), 1)
        self.assertEqual(repr(base), "Base(['only'])")

    def test_forty_items(self):
        names = forty_names()
        base = Base(names)
        self.assertEqual(len(names), 40)
        self.assertEqual(base.names(), names)
        self.assertEqual(len(base), 40)
        self.assertEqual(repr(base), "Base(" + repr(names) + ")")
        self.assertEqual([base.position_of(name) for name in names], list(range(40)))

    def test_no_items(self):
        self.check_problem("count", 0, [])

    def test_too_many_items(self):
        self.check_problem("count", 0, forty_names() + ["last"])
        self.check_problem("count", 0, forty_names() + ["x" + name for name in forty_names()])

    def test_no_list(self):
        for value in no_lists():
            self.check_problem("list", 0, value)
        self.check_problem("list", 0, ("a", "b"))
        self.check_problem("list", 0, ())
        self.check_problem("list", 0, Base(["a"]))
        self.check_problem("list", 0, (name for name in ["a", "b"]))

    def test_no_name(self):
        for value in no_names():
            self.check_problem("name", 0, [value])
            self.check_problem("name", 2, ["a", "b", value, "c"])

    def test_duplicate(self):
        self.check_problem("duplicate", 1, ["a", "a"])
        self.check_problem("duplicate", 3, ["a", "b", "c", "a"])
        self.check_problem("duplicate", 2, ["a", "b", "b", "a"])
        self.check_problem("duplicate", 40, forty_names() + forty_names()[:1])

    def test_the_first_problem_decides(self):
        self.check_problem("duplicate", 1, ["a", "a", "B"])
        self.check_problem("name", 1, ["a", "B", "a"])
        self.check_problem("name", 0, ["B", "B"])
        self.check_problem("name", 1, ["a", [], [], "a"])
        self.check_problem("duplicate", 2, ["a", "b", "a", None, "b"])

    def test_an_element_comes_before_the_count(self):
        self.check_problem("name", 41, forty_names() + ["last", "Last"])
        self.check_problem("duplicate", 41, forty_names() + ["last", "last"])
        self.check_problem("name", 3, forty_names()[:3] + [7] + forty_names())

    def test_later_changes_of_the_argument_have_no_effect(self):
        items = ["a", "b", "c"]
        base = Base(items)
        items.reverse()
        items.append("d")
        self.assertEqual(base.names(), ["a", "b", "c"])
        self.assertEqual(len(base), 3)
        self.assertEqual([base.has_item("d"), base.position_of("a"), base.precedes("a", "c")], [False, 0, True])
        self.assertEqual(base, Base(["a", "b", "c"]))

    def test_changes_of_the_returned_list_have_no_effect(self):
        base = Base(["a", "b", "c"])
        names = base.names()
        names.reverse()
        names.append("d")
        self.assertEqual(base.names(), ["a", "b", "c"])
        self.assertEqual([len(base), base.has_item("d"), base.position_of("a")], [3, False, 0])
        self.assertEqual(base, Base(["a", "b", "c"]))

    def test_the_returned_list_is_new_each_time(self):
        base = Base(["a", "b", "c"])
        self.assertIsNot(base.names(), base.names())
        self.assertIs(type(base.names()), list)

    def test_bases_are_independent(self):
        items = ["a", "b"]
        one = Base(items)
        items[0] = "c"
        two = Base(items)
        self.assertEqual([one.names(), two.names()], [["a", "b"], ["c", "b"]])
        self.assertEqual([one.has_item("c"), two.has_item("a")], [False, False])


class BaseEqualityTest(unittest.TestCase):
    def check_equal(self, one, two, equal):
        with self.subTest(one=one, two=two):
            self.assertIs(one == two, equal)
            self.assertIs(one != two, not equal)

    def test_bases(self):
        base = Base(["a", "b", "c"])
        self.check_equal(base, base, True)
        self.check_equal(base, Base(["a", "b", "c"]), True)
        self.check_equal(base, Base(["a", "c", "b"]), False)
        self.check_equal(base, Base(["c", "b", "a"]), False)
        self.check_equal(base, Base(["a", "b", "d"]), False)
        self.check_equal(base, Base(["a", "b"]), False)
        self.check_equal(base, Base(["a", "b", "c", "d"]), False)

    def test_other_values(self):
        base = Base(["a"])
        for value in no_strings() + ["a", "Base(['a'])", ["a"], ("a",), base.names(), repr(base), len(base)]:
            self.check_equal(base, value, False)
        self.check_equal(["a"], base, False)
        self.check_equal(base, AlwaysEqual(), False)


class ItemsTest(ErrorCase):
    def setUp(self):
        self.base = Base(["a", "b", "c", "d"])

    def test_examples(self):
        base = self.base
        result = [base.names(), base.has_item("c"), base.has_item(2), base.position_of("c")]
        self.assertEqual(result, [["a", "b", "c", "d"], True, False, 2])
        self.check_error(UnknownItem("e"), base.position_of, "e")
        result = [base.precedes("a", "c"), base.precedes("c", "a"), base.precedes("a", "a")]
        self.assertEqual(result, [True, False, False])

    def test_has_item(self):
        for value in ["a", "b", "c", "d"]:
            self.assertIs(self.base.has_item(value), True)
        for value in ["e", "ab", "aa"] + no_names() + [self.base]:
            with self.subTest(value=value):
                self.assertIs(self.base.has_item(value), False)

    def test_position_of(self):
        base = Base(["zoo", "a", "m"])
        self.assertEqual([base.position_of(name) for name in ["zoo", "a", "m"]], [0, 1, 2])

    def test_position_of_an_unknown_item(self):
        for value in ["e", "ab"] + no_names():
            with self.subTest(value=value):
                self.check_value(UnknownItem, value, self.base.position_of, value)

    def test_precedes_compares_positions_and_not_letters(self):
        names = ["zoo", "a", "m"]
        base = Base(names)
        for first in range(3):
            for second in range(3):
                with self.subTest(first=first, second=second):
                    self.assertIs(base.precedes(names[first], names[second]), first < second)

    def test_precedes_with_unknown_items(self):
        for value in ["e", "ab"] + no_names():
            with self.subTest(value=value):
                self.check_value(UnknownItem, value, self.base.precedes, value, "a")
                self.check_value(UnknownItem, value, self.base.precedes, "a", value)
                self.check_value(UnknownItem, value, self.base.precedes, value, ["other"])
                self.check_value(UnknownItem, value, self.base.precedes, value, "f")


if __name__ == "__main__":
    unittest.main()
