"""Tests of what holds for every call: arguments by name, arguments unchanged, results repeated."""

import copy
import unittest

from ordermerge.bases import Base, inverted_pairs, is_inverted, is_name, is_order
from ordermerge.order_text import dump_base, dump_order, load_base, load_order

BASE = Base(["m", "z", "a", "k"])
ORDER = ["k", "z", "m", "a"]

# Each function, class and method with its arguments by the names and in the sequence of the interface.
CALLS = [
    (is_name, {"value": "ann"}),
    (is_name, {"value": ["ann"]}),
    (Base, {"items": ["m", "z", "a"]}),
    (BASE.names, {}),
    (BASE.has_item, {"value": "z"}),
    (BASE.has_item, {"value": {"z": ["z"]}}),
    (BASE.position_of, {"item": "a"}),
    (BASE.position_of, {"item": ["a"]}),
    (BASE.precedes, {"first": "z", "second": "a"}),
    (BASE.precedes, {"first": "z", "second": ["a"]}),
    (is_order, {"base": BASE, "value": ORDER}),
    (is_order, {"base": BASE, "value": ["k", ["z"]]}),
    (is_inverted, {"base": BASE, "order": ORDER, "first": "z", "second": "k"}),
    (is_inverted, {"base": BASE, "order": ORDER, "first": "z", "second": "q"}),
    (inverted_pairs, {"base": BASE, "order": ORDER}),
    (inverted_pairs, {"base": BASE, "order": ORDER[:2]}),
    (dump_base, {"base": BASE}),
    (dump_order, {"base": BASE, "order": ORDER}),
    (dump_order, {"base": BASE, "order": ORDER + ["q"]}),
    (load_base, {"text": "x y"}),
    (load_base, {"text": ["x y"]}),
    (load_order, {"base": BASE, "text": "k z m a"}),
    (load_order, {"base": BASE, "text": "k z m"}),
]


def outcome(call, args, named):
    """Return what a call returns, or the class and the attributes of the error that it raises."""
    try:
        return "returned", repr(call(*args, **named))
    except Exception as error:
        return type(error), repr(vars(error))


class CallsTest(unittest.TestCase):
    def test_by_position_and_by_names(self):
        for call, named in CALLS:
            with self.subTest(call=call, named=named):
                expected = outcome(call, list(named.values()), {})
                self.assertIsNot(expected[0], TypeError)
                turned = {name: named[name] for name in reversed(list(named))}
                self.assertEqual(outcome(call, [], named), expected)
                self.assertEqual(outcome(call, [], turned), expected)

    def test_arguments_are_not_changed(self):
        for call, named in CALLS:
            with self.subTest(call=call, named=named):
                before = copy.deepcopy(named)
                outcome(call, list(named.values()), {})
                self.assertEqual(named, before)
                self.assertEqual(BASE, Base(["m", "z", "a", "k"]))

    def test_a_repeated_call_has_the_same_outcome(self):
        for call, named in CALLS:
            with self.subTest(call=call, named=named):
                args = list(named.values())
                self.assertEqual(outcome(call, args, {}), outcome(call, args, {}))

    def test_a_returned_list_is_not_an_argument(self):
        for call, named in CALLS:
            args = list(named.values())
            kind, shown = outcome(call, args, {})
            if kind == "returned" and isinstance(call(*args), list):
                with self.subTest(call=call, named=named):
                    call(*args).append("more")
                    self.assertEqual(outcome(call, args, {}), (kind, shown))

    def test_methods_stand_in_the_class_itself(self):
        for name in ["names", "has_item", "position_of", "precedes", "__len__", "__eq__", "__repr__"]:
            self.assertIn(name, vars(Base))


if __name__ == "__main__":
    unittest.main()
