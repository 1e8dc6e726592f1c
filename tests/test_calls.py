"""Tests of what holds for every call: arguments by name, arguments unchanged, results repeated and new."""

import copy
import unittest

from ordermerge.bases import Base, inverted_pairs, is_inverted, is_name, is_order
from ordermerge.explain import explain_inverted, explain_upright, is_chain, is_meet_chain
from ordermerge.histories import first_break, is_history, log_from_pairs, pairs_of_log
from ordermerge.merging import is_within, join_orders, meet_orders
from ordermerge.moves import apply_move, are_moves, is_word, moves_between, order_of_word, word_of
from ordermerge.order_text import dump_base, dump_order, load_base, load_order
from ordermerge.pair_sets import is_inversion_set, obstruction, order_from_pairs, part_about
from ordermerge.swap_log import SwapLog, log_from_entries
from ordermerge.swaps import distance, is_outward, swapped, swaps_between

BASE = Base(["m", "z", "a", "k"])
ORDER = ["k", "z", "m", "a"]
OTHER = ["z", "a", "m", "k"]
ENTRIES = [(0, ""), (1, "urgent"), (0, "x")]
PAIRS = [("m", "a"), ("m", "z")]
SPLIT = [("m", "a"), ("z", "k")]
HISTORY = [("m", "z"), ("m", "a"), ("z", "a")]
ORDERS = [["z", "a", "m", "k"], ["m", "z", "k", "a"]]
CHAIN = [("m", "a", 0), ("a", "k", 1)]
EXPLAINED = {"base": BASE, "orders": ORDERS, "first": "k", "second": "m"}

# Each function and class with its arguments by the names and in the sequence of the interface.
FUNCTIONS = [
    (is_name, {"value": "ann"}),
    (is_name, {"value": ["ann"]}),
    (Base, {"items": ["m", "z", "a"]}),
    (is_order, {"base": BASE, "value": ORDER}),
    (is_order, {"base": BASE, "value": ["k", ["z"]]}),
    (is_inverted, {"base": BASE, "order": ORDER, "first": "z", "second": "k"}),
    (is_inverted, {"base": BASE, "order": ORDER, "first": "z", "second": "q"}),
    (inverted_pairs, {"base": BASE, "order": ORDER}),
    (inverted_pairs, {"base": BASE, "order": ORDER[:2]}),
    (dump_base, {"base": BASE}),
    (dump_order, {"base": BASE, "order": ORDER}),
    (dump_order, {"base": BASE, "order": ORDER + ["q"]}),
    (load_base, {"text": "x y"}),
    (load_base, {"text": ["x y"]}),
    (load_order, {"base": BASE, "text": "k z m a"}),
    (load_order, {"base": BASE, "text": "k z m"}),
    (swapped, {"base": BASE, "order": ORDER, "index": 1}),
    (swapped, {"base": BASE, "order": ORDER, "index": 3}),
    (is_outward, {"base": BASE, "order": ORDER, "index": 2}),
    (is_outward, {"base": BASE, "order": ORDER[1:], "index": 2}),
    (distance, {"base": BASE, "order": ORDER, "other": OTHER}),
    (distance, {"base": BASE, "order": ORDER, "other": ["q"]}),
    (swaps_between, {"base": BASE, "order": ORDER, "other": OTHER}),
    (swaps_between, {"base": BASE, "order": ORDER, "other": ORDER}),
    (SwapLog, {"base": BASE}),
    (log_from_entries, {"base": BASE, "entries": ENTRIES}),
    (log_from_entries, {"base": BASE, "entries": ENTRIES + [(0, "")]}),
    (obstruction, {"base": BASE, "pairs": SPLIT}),
    (obstruction, {"base": BASE, "pairs": PAIRS + PAIRS}),
    (is_inversion_set, {"base": BASE, "pairs": PAIRS}),
    (order_from_pairs, {"base": BASE, "pairs": PAIRS}),
    (order_from_pairs, {"base": BASE, "pairs": SPLIT}),
    (part_about, {"base": BASE, "pairs": PAIRS, "first": "z", "second": "k", "third": "m"}),
    (part_about, {"base": BASE, "pairs": PAIRS, "first": "z", "second": "a", "third": "m"}),
    (part_about, {"base": BASE, "pairs": PAIRS, "first": "z", "second": ["a"], "third": "m"}),
    (pairs_of_log, {"log": log_from_entries(BASE, ENTRIES)}),
    (first_break, {"base": BASE, "pairs": SPLIT}),
    (first_break, {"base": BASE, "pairs": PAIRS + PAIRS}),
    (is_history, {"base": BASE, "value": HISTORY}),
    (is_history, {"base": BASE, "value": [["m", "z"]]}),
    (log_from_pairs, {"base": BASE, "pairs": HISTORY}),
    (log_from_pairs, {"base": BASE, "pairs": SPLIT}),
    (is_word, {"base": BASE, "value": [0, 1, 0]}),
    (is_word, {"base": BASE, "value": [0, [1]]}),
    (word_of, {"log": log_from_entries(BASE, ENTRIES)}),
    (order_of_word, {"base": BASE, "word": [0, 1, 0]}),
    (order_of_word, {"base": BASE, "word": [0, 1, 1]}),
    (apply_move, {"base": BASE, "word": [0, 1, 0], "move": ("braid", 0)}),
    (apply_move, {"base": BASE, "word": [2, 0, 1], "move": ("commute", 0)}),
    (apply_move, {"base": BASE, "word": [2, 0, 1], "move": ["commute", 0]}),
    (moves_between, {"base": BASE, "first": [0, 2, 1, 2], "second": [2, 0, 1, 2]}),
    (moves_between, {"base": BASE, "first": [0, 2], "second": [0, 1]}),
    (are_moves, {"base": BASE, "first": [0, 2], "second": [2, 0], "value": [("commute", 0)]}),
    (are_moves, {"base": BASE, "first": [0, 2], "second": [2, 0], "value": [["commute", 0]]}),
    (is_within, {"base": BASE, "order": ["z", "m", "a", "k"], "other": OTHER}),
    (is_within, {"base": BASE, "order": ["z", "m"], "other": OTHER}),
    (join_orders, {"base": BASE, "orders": ORDERS}),
    (join_orders, {"base": BASE, "orders": [ORDER, ["m"]]}),
    (meet_orders, {"base": BASE, "orders": ORDERS}),
    (meet_orders, {"base": BASE, "orders": [ORDER]}),
    (explain_inverted, EXPLAINED),
    (explain_inverted, {**EXPLAINED, "first": "m"}),
    (explain_upright, EXPLAINED),
    (explain_upright, {**EXPLAINED, "first": ["m"]}),
    (is_chain, {**EXPLAINED, "value": CHAIN}),
    (is_chain, {**EXPLAINED, "value": [list(link) for link in CHAIN]}),
    (is_meet_chain, {**EXPLAINED, "value": [("m", "k", 0)]}),
    (is_meet_chain, {**EXPLAINED, "value": [["m", "k", 0]]}),
]

# The same for methods, with a function that creates their object anew.
METHODS = [
    (lambda: BASE, "names", {}),
    (lambda: BASE, "has_item", {"value": "z"}),
    (lambda: BASE, "has_item", {"value": {"z": ["z"]}}),
    (lambda: BASE, "position_of", {"item": "a"}),
    (lambda: BASE, "position_of", {"item": ["a"]}),
    (lambda: BASE, "precedes", {"first": "z", "second": "a"}),
    (lambda: BASE, "precedes", {"first": "z", "second": ["a"]}),
    *[
        (lambda: log_from_entries(BASE, ENTRIES), name, named)
        for name, named in [
            ("base", {}),
            ("order", {}),
            ("entries", {}),
            ("swap", {"index": 1}),
            ("swap", {"index": 2}),
            ("swap", {"index": ["a"]}),
            ("move", {"item": "k", "index": 1}),
            ("move", {"item": "m", "index": 9}),
            ("adopt", {"order": ORDER}),
            ("adopt", {"order": ORDER[:3]}),
            ("remove_entry", {"position": 1}),
            ("remove_entry", {"position": {}}),
            ("clear_entries", {}),
            ("order_after", {"count": 2}),
            ("order_after", {"count": 7}),
            ("pair_at", {"position": 1}),
            ("pair_at", {"position": -1}),
            ("entry_for", {"first": "a", "second": "m"}),
            ("entry_for", {"first": "a", "second": None}),
            ("clone", {}),
        ]
    ],
]

# Parameters that are passed by name only: a function that returns the call, the arguments before them, the
# parameter, its default value, another value.
NAMED_ONLY = [
    (lambda: log_from_entries(BASE, ENTRIES).swap, [2], "reason", "", "why"),
    (lambda: log_from_entries(BASE, ENTRIES).move, ["k", 0], "reason", "", "why"),
    (lambda: log_from_entries(BASE, ENTRIES).adopt, [ORDER], "reason", "", "why"),
    (lambda: log_from_pairs, [BASE, HISTORY], "reason", "", "why"),
    (lambda: moves_between, [BASE, [0, 2], [2, 0]], "limit", 5, 3),
]


def makers():
    """Return tuples (make, named): make returns a call of a function, a class or a method of a new object."""
    rows = [(lambda call=call: call, named) for call, named in FUNCTIONS]
    return rows + [
        (lambda create=create, name=name: getattr(create(), name), named) for create, name, named in METHODS
    ]


def outcome(call, args, named):
    """Return what a call returns, or its error, and how the object whose method it is looks afterwards."""
    try:
        result = ("returned", repr(call(*args, **named)))
    except Exception as error:
        result = (type(error), repr(vars(error)))
    return result + (repr(getattr(call, "__self__", None)),)


def spoil(result):
    """Change a returned list, and the lists in it."""
    for part in result:
        if isinstance(part, list):
            part.append("more")
    result.append("more")


class CallsTest(unittest.TestCase):
    def test_by_position_and_by_names(self):
        for make, named in makers():
            with self.subTest(call=make(), named=named):
                expected = outcome(make(), list(named.values()), {})
                self.assertIsNot(expected[0], TypeError)
                turned = {name: named[name] for name in reversed(list(named))}
                self.assertEqual(outcome(make(), [], named), expected)
                self.assertEqual(outcome(make(), [], turned), expected)

    def test_named_only(self):
        for make, args, name, default, other in NAMED_ONLY:
            with self.subTest(call=make(), args=args):
                left_out = outcome(make(), args, {})
                self.assertEqual(left_out[0], "returned")
                self.assertEqual(outcome(make(), args, {name: default}), left_out)
                self.assertNotEqual(outcome(make(), args, {name: other}), left_out)
                self.assertIs(outcome(make(), args + [default], {})[0], TypeError)

    def test_arguments_are_not_changed(self):
        for make, named in makers():
            with self.subTest(call=make(), named=named):
                before = copy.deepcopy(named)
                outcome(make(), list(named.values()), {})
                self.assertEqual(repr(named), repr(before))
                self.assertEqual(BASE, Base(["m", "z", "a", "k"]))

    def test_a_repeated_call_has_the_same_outcome(self):
        for make, named in makers():
            with self.subTest(call=make(), named=named):
                args = list(named.values())
                self.assertEqual(outcome(make(), args, {}), outcome(make(), args, {}))

    def test_returned_lists_are_new(self):
        for make, named in makers():
            args = list(named.values())
            call = make()
            expected = outcome(call, args, {})
            if expected[0] == "returned" and isinstance(make()(*args), list):
                with self.subTest(call=call, named=named):
                    before = copy.deepcopy(named)
                    call = make()
                    result = call(*args)
                    shown = repr(getattr(call, "__self__", None))
                    spoil(result)
                    self.assertEqual(repr(getattr(call, "__self__", None)), shown)
                    self.assertEqual(repr(named), repr(before))
                    self.assertEqual(outcome(make(), args, {}), expected)

    def test_methods_of_bases_stand_in_the_class_itself(self):
        for name in ["names", "has_item", "position_of", "precedes", "__len__", "__eq__", "__repr__"]:
            self.assertIn(name, vars(Base))


if __name__ == "__main__":
    unittest.main()
