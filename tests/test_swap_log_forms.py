"""Tests of SwapLog as a value, of log_from_entries, and of the errors of both."""

import unittest

from ordermerge.bases import Base
from ordermerge.errors import (
    InvalidCount, InvalidEntries, InvalidIndex, InvalidOrder, InvalidPosition, InvalidReason, UnknownItem,
)
from ordermerge.swap_log import SwapLog, log_from_entries
from tests.helpers import (
    AlwaysEqual, ErrorCase, Plain, forty_names, no_integers, no_lists, no_names, no_tuples,
)

NAMES = ["m", "z", "a", "k"]
ENTRIES = [(0, ""), (1, "urgent"), (0, "x")]


def no_reasons():
    return [value for value in no_names() if not (isinstance(value, str) and value == "")]


def sample():
    """Return a log with three entries; its order is a z m k."""
    return log_from_entries(Base(NAMES), ENTRIES)


class ValueTest(ErrorCase):
    def test_length_and_repr(self):
        log = SwapLog(Base(NAMES))
        self.assertEqual((len(log), repr(log)), (0, "SwapLog(['m', 'z', 'a', 'k'], [])"))
        log = sample()
        shown = "SwapLog(['a', 'z', 'm', 'k'], [(0, ''), (1, 'urgent'), (0, 'x')])"
        self.assertEqual((len(log), repr(log)), (3, shown))

    def test_equal_logs(self):
        self.assertTrue(sample() == sample())
        self.assertFalse(sample() != sample())
        self.assertTrue(SwapLog(Base(NAMES)) == SwapLog(Base(NAMES)))
        # The way to the same entries does not matter.
        log = sample()
        log.swap(2)
        log.swap(2)
        self.assertTrue(log == sample())

    def test_different_logs(self):
        rows = [
            SwapLog(Base(NAMES)), SwapLog(Base(["m", "z", "a"])), SwapLog(Base(["z", "m", "a", "k"])),
            log_from_entries(Base(["z", "m", "a", "k"]), ENTRIES),
            log_from_entries(Base(NAMES), ENTRIES[:2]),
            log_from_entries(Base(NAMES), [(0, ""), (1, "urgent"), (0, "")]),
            log_from_entries(Base(NAMES), [(0, "urgent"), (1, ""), (0, "x")]),
            # The same order by other swaps.
            log_from_entries(Base(NAMES), [(1, ""), (0, "urgent"), (1, "x")]),
        ]
        for other in rows:
            with self.subTest(other=other):
                self.assertFalse(sample() == other)
                self.assertTrue(sample() != other)
                self.assertFalse(other == sample())

    def test_a_log_with_the_same_order_on_another_base_is_different(self):
        log, other = SwapLog(Base(["a", "b"])), SwapLog(Base(["b", "a"]))
        log.swap(0)
        self.assertEqual(log.order(), other.order())
        self.assertFalse(log == other)

    def test_other_values(self):
        log = sample()
        values = [None, True, 3, "", "log", repr(log), [], ENTRIES, log.order(), (), {}, Base(NAMES), Plain(), SwapLog]
        for value in values:
            with self.subTest(value=value):
                self.assertFalse(log == value)
                self.assertTrue(log != value)
                self.assertFalse(value == log)
        self.assertFalse(SwapLog(Base(NAMES)) == [])

    def test_what_is_returned_is_new(self):
        log = sample()
        for query in [log.order, log.entries, lambda: log.order_after(0), lambda: log.order_after(3)]:
            shown = repr(query())
            self.assertIs(type(query()), list)
            query().clear()
            query().append("more")
            self.assertEqual(repr(query()), shown)
        self.assertEqual(log, sample())
        self.assertEqual(log.base(), Base(NAMES))
        log.base().names().clear()
        self.assertEqual(log.base(), Base(NAMES))
        self.assertEqual({type(entry) for entry in log.entries()}, {tuple})

    def test_two_logs_of_one_base_are_independent(self):
        base = Base(NAMES)
        one, two = SwapLog(base), SwapLog(base)
        one.swap(0)
        self.assertEqual((len(one), len(two), two.order(), base.names()), (1, 0, NAMES, NAMES))

    def test_clone(self):
        changes = [
            lambda log: log.swap(2), lambda log: log.swap(0), lambda log: log.move("k", 0),
            lambda log: log.adopt(["k", "m", "z", "a"]), lambda log: log.remove_entry(1),
            lambda log: log.clear_entries(),
        ]
        for change in changes:
            log = sample()
            other = log.clone()
            self.assertIsNot(other, log)
            self.assertEqual(other, log)
            self.assertEqual((other.order(), other.base()), (log.order(), log.base()))
            change(other)
            self.assertNotEqual(other, sample())
            self.assertEqual((log, log.order()), (sample(), ["a", "z", "m", "k"]))
            other = log.clone()
            change(log)
            self.assertEqual((other, other.order()), (sample(), ["a", "z", "m", "k"]))

    def test_methods_stand_in_the_class_itself(self):
        names = "base order entries swap move adopt remove_entry clear_entries order_after pair_at entry_for clone"
        for name in names.split() + ["__len__", "__eq__", "__repr__"]:
            self.assertIn(name, vars(SwapLog))


class FromEntriesTest(ErrorCase):
    def check_position(self, position, entries):
        with self.subTest(entries=entries):
            self.check_error(InvalidEntries(position), log_from_entries, Base(NAMES), entries)

    def test_entries(self):
        for count in range(4):
            log = log_from_entries(Base(NAMES), ENTRIES[:count])
            other = SwapLog(Base(NAMES))
            for index, reason in ENTRIES[:count]:
                other.swap(index, reason=reason)
            self.assertEqual(log, other)
            self.assertEqual(log.order(), other.order())

    def test_the_list_is_copied(self):
        entries = list(ENTRIES)
        log = log_from_entries(Base(NAMES), entries)
        self.assertEqual(entries, ENTRIES)
        log.swap(2)
        self.assertEqual(entries, ENTRIES)
        entries.clear()
        self.assertEqual(log.entries(), ENTRIES + [(2, "")])

    def test_no_list(self):
        for value in no_lists() + [tuple(ENTRIES), sample()]:
            self.check_position(0, value)

    def test_no_entry(self):
        rows = no_tuples() + [(), (1,), (1, "", ""), (1, "", 0), ("", 1), ("a", "b"), [1, ""], ((1, ""),)]
        rows += [(value, "") for value in no_integers() + [-1, 3, 4, 10 ** 30]]
        rows += [(1, value) for value in no_reasons()]
        for value in rows:
            self.check_position(0, [value])
            self.check_position(1, [(0, ""), value])
            self.check_position(1, [(0, ""), value, (0, "")])
            self.check_position(2, ENTRIES[:2] + [value, None])

    def test_a_swap_that_is_not_outward_there(self):
        self.check_position(1, [(0, ""), (0, "")])
        self.check_position(3, ENTRIES + [(0, "")])
        self.check_position(3, ENTRIES + [(1, "")])
        self.check_position(2, [(1, ""), (0, ""), (0, ""), (5, "")])
        self.check_position(6, [(index, "") for index in [0, 1, 0, 2, 1, 0]] + [(0, "")])

    def test_the_first_fault_decides(self):
        self.check_position(1, [(0, ""), (0, ""), (7, "")])
        self.check_position(1, [(0, ""), (7, ""), (0, "")])
        self.check_position(1, [(0, ""), (1, "Bad"), [0, ""]])

    def test_one_item(self):
        self.assertEqual(log_from_entries(Base(["only"]), []), SwapLog(Base(["only"])))
        self.check_error(InvalidEntries(0), log_from_entries, Base(["only"]), [(0, "")])

    def test_forty_items(self):
        names = forty_names()
        log = SwapLog(Base(names))
        log.adopt(names[::-1], reason="all")
        self.assertTrue(log_from_entries(Base(names), log.entries()) == log)
        self.check_error(InvalidEntries(780), log_from_entries, Base(names), log.entries() + [(0, "")])


class LogErrorsTest(ErrorCase):
    def check_unchanged(self, log):
        self.assertEqual((log, log.order()), (sample(), ["a", "z", "m", "k"]))

    def check_kept(self, expected, method, *args, **named):
        """Check the error of a method of the sample, given by its name, and that the log is as it was."""
        log = sample()
        with self.subTest(method=method, args=args, named=named):
            self.check_error(expected, getattr(log, method), *args, **named)
            self.check_unchanged(log)

    def check_kept_value(self, error_class, value, method, *args, **named):
        """Check the same for an error that has this very value."""
        log = sample()
        with self.subTest(method=method, args=args, named=named):
            self.check_value(error_class, value, getattr(log, method), *args, **named)
            self.check_unchanged(log)

    def test_index(self):
        for value in no_integers() + [-1, 3, 4, 10 ** 30]:
            self.check_kept_value(InvalidIndex, value, "swap", value)
        for value in no_integers() + [-1, 4, 5, 10 ** 30]:
            self.check_kept_value(InvalidIndex, value, "move", "m", value)
        self.assertEqual(sample().move("m", 3), (1, 0))

    def test_reason(self):
        for value in no_reasons():
            # Also where no entry would be appended.
            self.check_kept_value(InvalidReason, value, "swap", 0, reason=value)
            self.check_kept_value(InvalidReason, value, "swap", 2, reason=value)
            self.check_kept_value(InvalidReason, value, "move", "m", 0, reason=value)
            self.check_kept_value(InvalidReason, value, "move", "m", 2, reason=value)
            self.check_kept_value(InvalidReason, value, "adopt", ["k", "a", "z", "m"], reason=value)
            self.check_kept_value(InvalidReason, value, "adopt", ["a", "z", "m", "k"], reason=value)

    def test_item(self):
        for value in ["q", "mz"] + no_names():
            self.check_kept_value(UnknownItem, value, "move", value, 0)
            self.check_kept_value(UnknownItem, value, "entry_for", value, "m")
            self.check_kept_value(UnknownItem, value, "entry_for", "m", value)
            self.check_kept_value(UnknownItem, value, "entry_for", value, "other")
        self.check_kept(UnknownItem("q"), "entry_for", "q", "q")

    def test_order(self):
        rows = [(0, []), (1, ["m"]), (2, ["m", "z", "q"]), (3, ["k", "a", "z", "a"]), (4, NAMES + ["m"])]
        for position, value in rows + [(0, value) for value in no_lists() + [tuple(NAMES)]]:
            self.check_kept(InvalidOrder(position), "adopt", value)

    def test_position(self):
        for value in no_integers() + [-1, 3, 4, 10 ** 30]:
            self.check_kept_value(InvalidPosition, value, "remove_entry", value)
            self.check_kept_value(InvalidPosition, value, "pair_at", value)
        log = SwapLog(Base(NAMES))
        self.check_error(InvalidPosition(0), log.remove_entry, 0)
        self.check_error(InvalidPosition(0), log.pair_at, 0)
        self.check_error(InvalidPosition(-1), log.pair_at, -1)

    def test_count(self):
        for value in no_integers() + [-1, 4, 5, 10 ** 30]:
            self.check_kept_value(InvalidCount, value, "order_after", value)
        self.check_error(InvalidCount(1), SwapLog(Base(NAMES)).order_after, 1)

    def test_two_errors_at_once(self):
        self.check_kept(InvalidIndex(3), "swap", 3, reason="Bad")
        self.check_kept(InvalidIndex(True), "swap", True, reason=None)
        self.check_kept(UnknownItem("q"), "move", "q", 9, reason="Bad")
        self.check_kept(UnknownItem("q"), "move", "q", 9)
        self.check_kept(UnknownItem("q"), "move", "q", 0, reason="Bad")
        self.check_kept(InvalidIndex(9), "move", "m", 9, reason="Bad")
        self.check_kept(InvalidOrder(1), "adopt", ["m"], reason="Bad")
        self.check_kept(UnknownItem("q"), "entry_for", "q", "r")

    def test_reasons_are_passed_by_name(self):
        for method, args in [("swap", (0,)), ("move", ("m", 0)), ("adopt", (NAMES,))]:
            log = sample()
            with self.assertRaises(TypeError):
                getattr(log, method)(*args, "x")
            self.check_unchanged(log)

    def test_a_value_that_claims_to_be_equal(self):
        log = sample()
        for method, args in [("swap", (AlwaysEqual(),)), ("remove_entry", (AlwaysEqual(),))]:
            with self.assertRaises((InvalidIndex, InvalidPosition)):
                getattr(log, method)(*args)
        self.check_unchanged(log)


if __name__ == "__main__":
    unittest.main()
