"""Tests of what holds for every call: arguments by name, arguments unchanged, results repeated and new."""

import unittest
from importlib import import_module

from ordermerge.bases import Base
from ordermerge.boards import Board
from ordermerge.console import Console
from ordermerge.groups import Group
from ordermerge.replicas import Replica
from ordermerge.swap_log import SwapLog
from tests.call_rows import BASE, FUNCTIONS, METHODS, NAMED_ONLY

# The methods that the interface lists for each class.
LISTED = {
    Base: "names has_item position_of precedes __len__ __eq__ __repr__",
    SwapLog: (
        "base order entries swap move adopt remove_entry clear_entries order_after pair_at entry_for clone __len__ "
        "__eq__ __repr__"
    ),
    Board: (
        "base users order entries swap move adopt remove_entry clear_entries accept merged common needed_users explain "
        "supporters undo operations clone __len__ __eq__"
    ),
    Replica: (
        "base users local order entries version versions swap move adopt accept remove_entry clear_entries undo merged "
        "common message receive __eq__"
    ),
    Group: (
        "base names users home perform order entries versions merged send deliver is_settled settle add_item "
        "remove_item rebase"
    ),
    Console: "execute run history board",
}

# The functions and classes that the interface lists for each file.
FILES = {
    "bases": "is_name Base is_order is_inverted inverted_pairs",
    "order_text": "dump_base dump_order load_base load_order",
    "swaps": "swapped is_outward distance swaps_between",
    "swap_log": "SwapLog log_from_entries",
    "pair_sets": "obstruction is_inversion_set order_from_pairs part_about",
    "histories": "pairs_of_log first_break is_history log_from_pairs",
    "moves": "is_word word_of order_of_word apply_move moves_between are_moves",
    "merging": "is_within join_orders meet_orders",
    "explain": "explain_inverted explain_upright is_chain is_meet_chain",
    "arcs": "is_arc arcs_of order_of_arc join_of_arcs is_reduced is_arc_within supporters",
    "boards": "Board",
    "replicas": "Replica",
    "rebase": "with_item without_item",
    "groups": "Group",
    "board_text": "dump_board load_board",
    "console": "Console",
}
CONSTANTS = [
    ("bases", "MAX_ITEMS", 40), ("swap_log", "NO_REASON", ""), ("moves", "MOVE_ITEMS", 5), ("boards", "MAX_USERS", 8),
    ("groups", "MAX_REPLICAS", 6),
]


def makers():
    """Return tuples (make, named): make returns a call of a function, a class or a method of a new object."""
    rows = [(lambda call=call: call, named) for call, named in FUNCTIONS]
    return rows + [
        (lambda create=create, name=name: getattr(create(), name), named) for create, name, named in METHODS
    ]


def shown(value):
    """Return how a value looks; boards, replicas, groups and consoles have no repr of their own."""
    if isinstance(value, Board):
        logs = [(user, value.order(user), value.entries(user)) for user in value.users()]
        return repr((value.base(), logs, value.operations()))
    if isinstance(value, Replica):
        return repr((value.base(), value.local(), value.message(), value.versions()))
    if isinstance(value, Group):
        places = [(name, user) for name in value.names() for user in value.users()]
        logs = [(value.order(name, user), value.entries(name, user)) for name, user in places]
        return repr((value.base(), value.names(), logs, [value.versions(name) for name in value.names()]))
    if isinstance(value, Console):
        return repr((shown(value.board()), value.history()))
    return repr(value)


def shown_all(named):
    return [shown(value) for value in named.values()]


def outcome(call, args, named):
    """Return what a call returns, or its error, and how the object whose method it is looks afterwards."""
    try:
        result = ("returned", shown(call(*args, **named)))
    except Exception as error:
        result = (type(error), repr(vars(error)))
    return result + (shown(getattr(call, "__self__", None)),)


def spoil(result):
    """Change a returned list or dict, and the lists and dicts in it, also in its tuples."""
    if isinstance(result, (list, tuple)):
        for part in result:
            spoil(part)
    if isinstance(result, list):
        result.append("more")
    if isinstance(result, dict):
        result["more"] = "more"


class CallsTest(unittest.TestCase):
    def test_by_position_and_by_names(self):
        for make, named in makers():
            with self.subTest(call=make(), named=named):
                expected = outcome(make(), list(named.values()), {})
                self.assertIsNot(expected[0], TypeError)
                turned = {name: named[name] for name in reversed(list(named))}
                self.assertEqual(outcome(make(), [], named), expected)
                self.assertEqual(outcome(make(), [], turned), expected)

    def test_named_only(self):
        for make, args, name, default, other in NAMED_ONLY:
            with self.subTest(call=make(), args=args):
                left_out = outcome(make(), args, {})
                self.assertEqual(left_out[0], "returned")
                self.assertEqual(outcome(make(), args, {name: default}), left_out)
                self.assertNotEqual(outcome(make(), args, {name: other}), left_out)
                self.assertIs(outcome(make(), args + [default], {})[0], TypeError)

    def test_arguments_are_not_changed(self):
        for make, named in makers():
            with self.subTest(call=make(), named=named):
                before = shown_all(named)
                outcome(make(), list(named.values()), {})
                self.assertEqual(shown_all(named), before)
                self.assertEqual(BASE, Base(["m", "z", "a", "k"]))

    def test_a_repeated_call_has_the_same_outcome(self):
        for make, named in makers():
            with self.subTest(call=make(), named=named):
                args = list(named.values())
                self.assertEqual(outcome(make(), args, {}), outcome(make(), args, {}))

    def test_returned_lists_are_new(self):
        for make, named in makers():
            args = list(named.values())
            call = make()
            expected = outcome(call, args, {})
            if expected[0] == "returned" and isinstance(make()(*args), (list, dict)):
                with self.subTest(call=call, named=named):
                    before = shown_all(named)
                    call = make()
                    result = call(*args)
                    before_spoiling = shown(getattr(call, "__self__", None))
                    spoil(result)
                    self.assertEqual(shown(getattr(call, "__self__", None)), before_spoiling)
                    self.assertEqual(shown_all(named), before)
                    self.assertEqual(outcome(make(), args, {}), expected)


class InterfaceTest(unittest.TestCase):
    def test_methods_stand_in_the_class_itself(self):
        for owner, names in LISTED.items():
            for name in names.split():
                self.assertIn(name, vars(owner))

    def test_each_function_and_class_is_called_above(self):
        listed = [
            getattr(import_module("ordermerge." + file), name)
            for file, names in FILES.items() for name in names.split()
        ]
        self.assertEqual({call for call, named in FUNCTIONS}, set(listed))

    def test_constants(self):
        for file, name, value in CONSTANTS:
            self.assertEqual(repr(getattr(import_module("ordermerge." + file), name)), repr(value))

    def test_each_method_is_called_above(self):
        called = {(type(create()), name) for create, name, named in METHODS}
        listed = {(owner, name) for owner, names in LISTED.items() for name in names.split() if "__" not in name}
        self.assertEqual(called, listed)


if __name__ == "__main__":
    unittest.main()
