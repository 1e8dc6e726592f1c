"""Calls of all functions, classes and methods of the package, with their arguments by the names of the interface."""

from ordermerge.arcs import arcs_of, is_arc, is_arc_within, is_reduced, join_of_arcs, order_of_arc, supporters
from ordermerge.bases import Base, inverted_pairs, is_inverted, is_name, is_order
from ordermerge.board_text import dump_board, load_board
from ordermerge.boards import Board
from ordermerge.console import Console
from ordermerge.explain import explain_inverted, explain_upright, is_chain, is_meet_chain
from ordermerge.groups import Group
from ordermerge.histories import first_break, is_history, log_from_pairs, pairs_of_log
from ordermerge.merging import is_within, join_orders, meet_orders
from ordermerge.moves import apply_move, are_moves, is_word, moves_between, order_of_word, word_of
from ordermerge.order_text import dump_base, dump_order, load_base, load_order
from ordermerge.pair_sets import is_inversion_set, obstruction, order_from_pairs, part_about
from ordermerge.rebase import with_item, without_item
from ordermerge.replicas import Replica
from ordermerge.swap_log import SwapLog, log_from_entries
from ordermerge.swaps import distance, is_outward, swapped, swaps_between

BASE = Base(["m", "z", "a", "k"])
ORDER = ["k", "z", "m", "a"]
OTHER = ["z", "a", "m", "k"]
ENTRIES = [(0, ""), (1, "urgent"), (0, "x")]
PAIRS = [("m", "a"), ("m", "z")]
SPLIT = [("m", "a"), ("z", "k")]
HISTORY = [("m", "z"), ("m", "a"), ("z", "a")]
ORDERS = [["z", "a", "m", "k"], ["m", "z", "k", "a"]]
CHAIN = [("m", "a", 0), ("a", "k", 1)]
EXPLAINED = {"base": BASE, "orders": ORDERS, "first": "k", "second": "m"}
ARCS = [("m", "a", ("z",)), ("a", "k", ())]
USERS = ["dan", "ann"]
MESSAGE = [("dan", 2, ((0, ""),)), ("ann", 1, ())]
HOMES = [("east", ["dan"]), ("west", ["ann"])]

def used_board():
    board = Board(BASE, USERS)
    board.adopt("dan", ORDERS[0])
    board.adopt("ann", ORDERS[1], reason="x")
    return board


def used_replica():
    replica = Replica(BASE, USERS, ["ann"])
    replica.adopt("ann", ORDERS[0])
    replica.receive([("dan", 1, ((2, "why"),)), ("ann", 0, ())])
    return replica


def used_group():
    group = Group(BASE, HOMES)
    group.perform("ann", ("adopt", ORDERS[0], ""))
    group.send("west")
    return group


def settled_group():
    group = used_group()
    group.settle()
    return group


def used_console():
    console = Console(BASE, USERS)
    console.run(["swap ann 0", "move dan k 0 far"])
    return console


# Each function and class with its arguments by the names and in the sequence of the interface.
FUNCTIONS = [
    (is_name, {"value": "ann"}),
    (is_name, {"value": ["ann"]}),
    (Base, {"items": ["m", "z", "a"]}),
    (is_order, {"base": BASE, "value": ORDER}),
    (is_order, {"base": BASE, "value": ["k", ["z"]]}),
    (is_inverted, {"base": BASE, "order": ORDER, "first": "z", "second": "k"}),
    (is_inverted, {"base": BASE, "order": ORDER, "first": "z", "second": "q"}),
    (inverted_pairs, {"base": BASE, "order": ORDER}),
    (inverted_pairs, {"base": BASE, "order": ORDER[:2]}),
    (dump_base, {"base": BASE}),
    (dump_order, {"base": BASE, "order": ORDER}),
    (dump_order, {"base": BASE, "order": ORDER + ["q"]}),
    (load_base, {"text": "x y"}),
    (load_base, {"text": ["x y"]}),
    (load_order, {"base": BASE, "text": "k z m a"}),
    (load_order, {"base": BASE, "text": "k z m"}),
    (swapped, {"base": BASE, "order": ORDER, "index": 1}),
    (swapped, {"base": BASE, "order": ORDER, "index": 3}),
    (is_outward, {"base": BASE, "order": ORDER, "index": 2}),
    (is_outward, {"base": BASE, "order": ORDER[1:], "index": 2}),
    (distance, {"base": BASE, "order": ORDER, "other": OTHER}),
    (distance, {"base": BASE, "order": ORDER, "other": ["q"]}),
    (swaps_between, {"base": BASE, "order": ORDER, "other": OTHER}),
    (swaps_between, {"base": BASE, "order": ORDER, "other": ORDER}),
    (SwapLog, {"base": BASE}),
    (log_from_entries, {"base": BASE, "entries": ENTRIES}),
    (log_from_entries, {"base": BASE, "entries": ENTRIES + [(0, "")]}),
    (obstruction, {"base": BASE, "pairs": SPLIT}),
    (obstruction, {"base": BASE, "pairs": PAIRS + PAIRS}),
    (is_inversion_set, {"base": BASE, "pairs": PAIRS}),
    (order_from_pairs, {"base": BASE, "pairs": PAIRS}),
    (order_from_pairs, {"base": BASE, "pairs": SPLIT}),
    (part_about, {"base": BASE, "pairs": PAIRS, "first": "z", "second": "k", "third": "m"}),
    (part_about, {"base": BASE, "pairs": PAIRS, "first": "z", "second": "a", "third": "m"}),
    (part_about, {"base": BASE, "pairs": PAIRS, "first": "z", "second": ["a"], "third": "m"}),
    (pairs_of_log, {"log": log_from_entries(BASE, ENTRIES)}),
    (first_break, {"base": BASE, "pairs": SPLIT}),
    (first_break, {"base": BASE, "pairs": PAIRS + PAIRS}),
    (is_history, {"base": BASE, "value": HISTORY}),
    (is_history, {"base": BASE, "value": [["m", "z"]]}),
    (log_from_pairs, {"base": BASE, "pairs": HISTORY}),
    (log_from_pairs, {"base": BASE, "pairs": SPLIT}),
    (is_word, {"base": BASE, "value": [0, 1, 0]}),
    (is_word, {"base": BASE, "value": [0, [1]]}),
    (word_of, {"log": log_from_entries(BASE, ENTRIES)}),
    (order_of_word, {"base": BASE, "word": [0, 1, 0]}),
    (order_of_word, {"base": BASE, "word": [0, 1, 1]}),
    (apply_move, {"base": BASE, "word": [0, 1, 0], "move": ("braid", 0)}),
    (apply_move, {"base": BASE, "word": [2, 0, 1], "move": ("commute", 0)}),
    (apply_move, {"base": BASE, "word": [2, 0, 1], "move": ["commute", 0]}),
    (moves_between, {"base": BASE, "first": [0, 2, 1, 2], "second": [2, 0, 1, 2]}),
    (moves_between, {"base": BASE, "first": [0, 2], "second": [0, 1]}),
    (are_moves, {"base": BASE, "first": [0, 2], "second": [2, 0], "value": [("commute", 0)]}),
    (are_moves, {"base": BASE, "first": [0, 2], "second": [2, 0], "value": [["commute", 0]]}),
    (is_within, {"base": BASE, "order": ["z", "m", "a", "k"], "other": OTHER}),
    (is_within, {"base": BASE, "order": ["z", "m"], "other": OTHER}),
    (join_orders, {"base": BASE, "orders": ORDERS}),
    (join_orders, {"base": BASE, "orders": [ORDER, ["m"]]}),
    (meet_orders, {"base": BASE, "orders": ORDERS}),
    (meet_orders, {"base": BASE, "orders": [ORDER]}),
    (explain_inverted, EXPLAINED),
    (explain_inverted, {**EXPLAINED, "first": "m"}),
    (explain_upright, EXPLAINED),
    (explain_upright, {**EXPLAINED, "first": ["m"]}),
    (is_chain, {**EXPLAINED, "value": CHAIN}),
    (is_chain, {**EXPLAINED, "value": [list(link) for link in CHAIN]}),
    (is_meet_chain, {**EXPLAINED, "value": [("m", "k", 0)]}),
    (is_meet_chain, {**EXPLAINED, "value": [["m", "k", 0]]}),
    (is_arc, {"base": BASE, "value": ARCS[0]}),
    (is_arc, {"base": BASE, "value": ["m", "a", ["z"]]}),
    (arcs_of, {"base": BASE, "order": ORDER}),
    (arcs_of, {"base": BASE, "order": ORDER[:2]}),
    (order_of_arc, {"base": BASE, "arc": ARCS[0]}),
    (order_of_arc, {"base": BASE, "arc": ["m", "a", ["z"]]}),
    (join_of_arcs, {"base": BASE, "arcs": ARCS}),
    (join_of_arcs, {"base": BASE, "arcs": ARCS + [["m"]]}),
    (is_reduced, {"base": BASE, "value": ARCS}),
    (is_reduced, {"base": BASE, "value": ARCS + [["m"]]}),
    (is_arc_within, {"base": BASE, "arc": ARCS[0], "order": ORDER}),
    (is_arc_within, {"base": BASE, "arc": ARCS[0], "order": ORDER[:1]}),
    (supporters, {"base": BASE, "orders": ORDERS}),
    (supporters, {"base": BASE, "orders": ORDERS + [["m"]]}),
    (Board, {"base": BASE, "users": USERS}),
    (Board, {"base": BASE, "users": USERS + USERS}),
    (Replica, {"base": BASE, "users": USERS, "local": ["ann"]}),
    (Replica, {"base": BASE, "users": USERS, "local": ["ann", ["ann"]]}),
    (with_item, {"log": log_from_entries(BASE, ENTRIES), "item": "q"}),
    (with_item, {"log": log_from_entries(BASE, ENTRIES), "item": ["q"]}),
    (without_item, {"log": log_from_entries(BASE, ENTRIES), "item": "z"}),
    (without_item, {"log": log_from_entries(BASE, ENTRIES), "item": ["z"]}),
    (Group, {"base": BASE, "homes": HOMES}),
    (Group, {"base": BASE, "homes": HOMES + [["north", ["cy"]]]}),
    (dump_board, {"board": used_board()}),
    (load_board, {"text": "base m z\nusers ann\nswap ann 0 why\n"}),
    (load_board, {"text": ["base m z\nusers ann\n"]}),
    (Console, {"base": BASE, "users": USERS}),
    (Console, {"base": BASE, "users": USERS + USERS}),
]


# Operations that boards and replicas have in common, with valid and with invalid arguments.
OPERATIONS = [
    ("base", {}),
    ("users", {}),
    ("order", {"user": "ann"}),
    ("order", {"user": ["ann"]}),
    ("entries", {"user": "ann"}),
    ("entries", {"user": {"ann": []}}),
    ("swap", {"user": "ann", "index": 1}),
    ("swap", {"user": "ann", "index": [1]}),
    ("move", {"user": "ann", "item": "k", "index": 0}),
    ("move", {"user": "ann", "item": ["k"], "index": 0}),
    ("adopt", {"user": "ann", "order": ORDER}),
    ("adopt", {"user": "ann", "order": ORDER[:2]}),
    ("accept", {"user": "ann"}),
    ("accept", {"user": ["ann"]}),
    ("remove_entry", {"user": "ann", "position": 0}),
    ("remove_entry", {"user": "ann", "position": [0]}),
    ("clear_entries", {"user": "ann"}),
    ("clear_entries", {"user": ["ann"]}),
    ("merged", {}),
    ("common", {}),
]

# The same for methods, with a function that creates their object anew.
METHODS = [
    (lambda: BASE, "names", {}),
    (lambda: BASE, "has_item", {"value": "z"}),
    (lambda: BASE, "has_item", {"value": {"z": ["z"]}}),
    (lambda: BASE, "position_of", {"item": "a"}),
    (lambda: BASE, "position_of", {"item": ["a"]}),
    (lambda: BASE, "precedes", {"first": "z", "second": "a"}),
    (lambda: BASE, "precedes", {"first": "z", "second": ["a"]}),
    *[
        (lambda: log_from_entries(BASE, ENTRIES), name, named)
        for name, named in [
            ("base", {}),
            ("order", {}),
            ("entries", {}),
            ("swap", {"index": 1}),
            ("swap", {"index": 2}),
            ("swap", {"index": ["a"]}),
            ("move", {"item": "k", "index": 1}),
            ("move", {"item": "m", "index": 9}),
            ("adopt", {"order": ORDER}),
            ("adopt", {"order": ORDER[:3]}),
            ("remove_entry", {"position": 1}),
            ("remove_entry", {"position": {}}),
            ("clear_entries", {}),
            ("order_after", {"count": 2}),
            ("order_after", {"count": 7}),
            ("pair_at", {"position": 1}),
            ("pair_at", {"position": -1}),
            ("entry_for", {"first": "a", "second": "m"}),
            ("entry_for", {"first": "a", "second": None}),
            ("clone", {}),
        ]
    ],
    *[(create, name, named) for create in [used_board, used_replica] for name, named in OPERATIONS],
    (used_board, "needed_users", {}),
    (used_board, "explain", {"first": "k", "second": "m"}),
    (used_board, "explain", {"first": "k", "second": ["m"]}),
    (used_board, "supporters", {}),
    (used_board, "undo", {"count": 2}),
    (used_board, "undo", {"count": [2]}),
    (used_board, "operations", {}),
    (used_board, "clone", {}),
    (used_replica, "local", {}),
    (used_replica, "version", {"user": "dan"}),
    (used_replica, "version", {"user": ["dan"]}),
    (used_replica, "versions", {}),
    (used_replica, "undo", {"user": "ann"}),
    (used_replica, "undo", {"user": "dan"}),
    (used_replica, "message", {}),
    (used_replica, "receive", {"message": MESSAGE}),
    (used_replica, "receive", {"message": MESSAGE + [["dan", 1, []]]}),
    (used_group, "base", {}),
    (used_group, "names", {}),
    (used_group, "users", {}),
    (used_group, "home", {"user": "ann"}),
    (used_group, "home", {"user": ["ann"]}),
    (used_group, "perform", {"user": "ann", "operation": ("adopt", ORDER, "")}),
    (used_group, "perform", {"user": "dan", "operation": ["adopt", ORDER, ""]}),
    (used_group, "order", {"name": "west", "user": "ann"}),
    (used_group, "order", {"name": "west", "user": ["ann"]}),
    (used_group, "entries", {"name": "west", "user": "ann"}),
    (used_group, "entries", {"name": ["west"], "user": "ann"}),
    (used_group, "versions", {"name": "west"}),
    (used_group, "versions", {"name": ["west"]}),
    (used_group, "merged", {"name": "west"}),
    (used_group, "merged", {"name": ["west"]}),
    (used_group, "send", {"name": "west"}),
    (used_group, "send", {"name": ["west"]}),
    (used_group, "deliver", {"number": 0, "name": "east"}),
    (used_group, "deliver", {"number": [0], "name": "east"}),
    (used_group, "is_settled", {}),
    (used_group, "settle", {}),
    (used_group, "add_item", {"item": "q"}),
    (settled_group, "add_item", {"item": "q"}),
    (settled_group, "add_item", {"item": ["q"]}),
    (settled_group, "remove_item", {"item": "z"}),
    (settled_group, "remove_item", {"item": ["z"]}),
    (settled_group, "rebase", {"order": ORDER}),
    (settled_group, "rebase", {"order": ORDER[:2]}),
    (used_console, "execute", {"command": "adopt ann k z m a why"}),
    (used_console, "execute", {"command": ["merged"]}),
    (used_console, "run", {"commands": ["clear ann", "log dan"]}),
    (used_console, "run", {"commands": ["clear ann", "log bo"]}),
    (used_console, "history", {}),
    (used_console, "board", {}),
]

# Parameters that are passed by name only: a function that returns the call, the arguments before them, the
# parameter, its default value, another value.
NAMED_ONLY = [
    (lambda: log_from_entries(BASE, ENTRIES).swap, [2], "reason", "", "why"),
    (lambda: log_from_entries(BASE, ENTRIES).move, ["k", 0], "reason", "", "why"),
    (lambda: log_from_entries(BASE, ENTRIES).adopt, [ORDER], "reason", "", "why"),
    (lambda: log_from_pairs, [BASE, HISTORY], "reason", "", "why"),
    (lambda: moves_between, [BASE, [0, 2], [2, 0]], "limit", 5, 3),
    *[
        (lambda create=create, name=name: getattr(create(), name), ["ann", *args], "reason", "", "why")
        for create in [used_board, used_replica]
        for name, args in [("swap", [0]), ("move", ["k", 0]), ("adopt", [ORDER]), ("accept", [])]
    ],
]
