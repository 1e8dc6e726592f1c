"""Tests of what holds for every call: arguments by name, arguments unchanged, results repeated and new."""

import copy
import unittest

from ordermerge.bases import Base
from ordermerge.boards import Board
from ordermerge.replicas import Replica
from ordermerge.swap_log import SwapLog
from tests.call_rows import BASE, FUNCTIONS, METHODS, NAMED_ONLY

# The methods that the interface lists for each class.
LISTED = {
    Base: "names has_item position_of precedes __len__ __eq__ __repr__",
    SwapLog: (
        "base order entries swap move adopt remove_entry clear_entries order_after pair_at entry_for clone __len__ "
        "__eq__ __repr__"
    ),
    Board: (
        "base users order entries swap move adopt remove_entry clear_entries accept merged common needed_users explain "
        "supporters undo operations clone __len__ __eq__"
    ),
    Replica: (
        "base users local order entries version versions swap move adopt accept remove_entry clear_entries undo merged "
        "common message receive __eq__"
    ),
}


def makers():
    """Return tuples (make, named): make returns a call of a function, a class or a method of a new object."""
    rows = [(lambda call=call: call, named) for call, named in FUNCTIONS]
    return rows + [
        (lambda create=create, name=name: getattr(create(), name), named) for create, name, named in METHODS
    ]


def shown(value):
    """Return how a value looks; boards and replicas have no repr of their own."""
    if isinstance(value, Board):
        logs = [(user, value.order(user), value.entries(user)) for user in value.users()]
        return repr((value.base(), logs, value.operations()))
    if isinstance(value, Replica):
        return repr((value.base(), value.local(), value.message(), value.versions()))
    return repr(value)


def outcome(call, args, named):
    """Return what a call returns, or its error, and how the object whose method it is looks afterwards."""
    try:
        result = ("returned", shown(call(*args, **named)))
    except Exception as error:
        result = (type(error), repr(vars(error)))
    return result + (shown(getattr(call, "__self__", None)),)


def spoil(result):
    """Change a returned list or dict, and the lists and dicts in it, also in its tuples."""
    if isinstance(result, (list, tuple)):
        for part in result:
            spoil(part)
    if isinstance(result, list):
        result.append("more")
    if isinstance(result, dict):
        result["more"] = "more"


class CallsTest(unittest.TestCase):
    def test_by_position_and_by_names(self):
        for make, named in makers():
            with self.subTest(call=make(), named=named):
                expected = outcome(make(), list(named.values()), {})
                self.assertIsNot(expected[0], TypeError)
                turned = {name: named[name] for name in reversed(list(named))}
                self.assertEqual(outcome(make(), [], named), expected)
                self.assertEqual(outcome(make(), [], turned), expected)

    def test_named_only(self):
        for make, args, name, default, other in NAMED_ONLY:
            with self.subTest(call=make(), args=args):
                left_out = outcome(make(), args, {})
                self.assertEqual(left_out[0], "returned")
                self.assertEqual(outcome(make(), args, {name: default}), left_out)
                self.assertNotEqual(outcome(make(), args, {name: other}), left_out)
                self.assertIs(outcome(make(), args + [default], {})[0], TypeError)

    def test_arguments_are_not_changed(self):
        for make, named in makers():
            with self.subTest(call=make(), named=named):
                before = copy.deepcopy(named)
                outcome(make(), list(named.values()), {})
                self.assertEqual(repr(named), repr(before))
                self.assertEqual(BASE, Base(["m", "z", "a", "k"]))

    def test_a_repeated_call_has_the_same_outcome(self):
        for make, named in makers():
            with self.subTest(call=make(), named=named):
                args = list(named.values())
                self.assertEqual(outcome(make(), args, {}), outcome(make(), args, {}))

    def test_returned_lists_are_new(self):
        for make, named in makers():
            args = list(named.values())
            call = make()
            expected = outcome(call, args, {})
            if expected[0] == "returned" and isinstance(make()(*args), (list, dict)):
                with self.subTest(call=call, named=named):
                    before = copy.deepcopy(named)
                    call = make()
                    result = call(*args)
                    before_spoiling = shown(getattr(call, "__self__", None))
                    spoil(result)
                    self.assertEqual(shown(getattr(call, "__self__", None)), before_spoiling)
                    self.assertEqual(repr(named), repr(before))
                    self.assertEqual(outcome(make(), args, {}), expected)


class MethodsTest(unittest.TestCase):
    def test_they_stand_in_the_class_itself(self):
        for owner, names in LISTED.items():
            for name in names.split():
                self.assertIn(name, vars(owner))

    def test_each_one_is_called_above(self):
        called = {(type(create()), name) for create, name, named in METHODS}
        listed = {(owner, name) for owner, names in LISTED.items() for name in names.split() if "__" not in name}
        self.assertEqual(called, listed)


if __name__ == "__main__":
    unittest.main()
