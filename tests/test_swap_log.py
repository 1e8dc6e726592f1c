"""Tests of what changes a SwapLog: swaps, moves, adopted orders, removed entries."""

import random
import unittest
from itertools import product

from ordermerge.bases import Base, inverted_pairs
from ordermerge.swap_log import NO_REASON, SwapLog, log_from_entries
from ordermerge.swaps import swaps_between
from tests.helpers import all_orders, forty_names, inverted_in
from tests.log_model import model_remove, model_swap, model_swaps, replay

NAMES = ["m", "z", "a", "k"]
REASONS = ["", "urgent", "late", "x"]


def log_of(names, indexes):
    """Return a log after swaps at these indexes, and its entries; each swap has a reason of its own."""
    log, entries = SwapLog(Base(names)), []
    for at, index in enumerate(indexes):
        log.swap(index, reason="abcdefghijklmnopqrst"[at])
        entries, position = model_swap(names, entries, index, "abcdefghijklmnopqrst"[at])
    return log, entries


def some_logs():
    """Return tuples (log, entries) of logs with up to six entries, among them one for each order."""
    return [log_of(NAMES, swaps_between(Base(NAMES), NAMES, order)) for order in all_orders(NAMES)] + [
        log_of(NAMES, indexes)
        for indexes in [[2, 1, 0], [1, 0, 2, 1], [2, 1, 2, 0, 1, 2], [0, 2, 1, 0, 2, 1], [1, 2, 1]]
    ]


class LogCase(unittest.TestCase):
    """A test case that knows what holds for each log."""

    def check_log(self, log, names, entries):
        """Check that the log has these entries, that its order fits, and that there is no useless entry."""
        self.assertEqual(repr(log.entries()), repr(entries))
        self.assertEqual(log.order(), replay(names, entries)[0])
        self.assertEqual(len(log), len(inverted_pairs(log.base(), log.order())))
        self.assertEqual(sorted(replay(names, entries)[1]), sorted(inverted_in(names, log.order())))
        alone = SwapLog(Base(names))
        for index, reason in log.entries():
            self.assertIsNone(alone.swap(index, reason=reason))
        self.assertEqual(alone.order(), log.order())
        self.assertEqual(alone, log)


class SwapTest(LogCase):
    def test_a_new_log(self):
        for names in [["only"], NAMES, forty_names()]:
            log = SwapLog(Base(names))
            self.assertEqual((log.base(), log.order(), log.entries(), len(log)), (Base(names), names, [], 0))

    def test_no_reason(self):
        self.assertEqual(repr(NO_REASON), "''")

    def test_outward_swaps_with_and_without_a_reason(self):
        log = SwapLog(Base(NAMES))
        self.assertIsNone(log.swap(0))
        self.assertIsNone(log.swap(1, reason="urgent"))
        self.assertIsNone(log.swap(0, reason=""))
        self.assertIsNone(log.swap(2, reason="abcdefgh"))
        self.check_log(log, NAMES, [(0, ""), (1, "urgent"), (0, ""), (2, "abcdefgh")])
        self.assertEqual(log.order(), ["a", "z", "k", "m"])

    def test_an_inward_swap_cancels_the_last_entry(self):
        log, entries = log_of(NAMES, [0, 1, 0])
        self.assertEqual(repr(log.swap(0)), "2")
        self.check_log(log, NAMES, [(0, "a"), (1, "b")])

    def test_an_inward_swap_cancels_a_middle_entry(self):
        log, entries = log_of(NAMES, [1, 0, 2])
        self.assertEqual(log.order(), ["a", "m", "k", "z"])
        self.assertEqual(repr(log.swap(0, reason="back")), "1")
        self.check_log(log, NAMES, [(1, "a"), (2, "c")])

    def test_an_inward_swap_cancels_the_first_entry(self):
        log, entries = log_of(NAMES, [0, 1, 0])
        self.assertEqual(repr(log.swap(1, reason="back")), "0")
        self.check_log(log, NAMES, [(1, "b"), (0, "c")])

    def test_all_short_sequences_of_swaps(self):
        for indexes in product(range(3), repeat=6):
            log, entries = SwapLog(Base(NAMES)), []
            for at, index in enumerate(indexes):
                reason = REASONS[at % 4]
                entries, position = model_swap(NAMES, entries, index, reason)
                self.assertEqual(repr(log.swap(index, reason=reason)), repr(position))
                self.assertEqual(log.entries(), entries)
            self.check_log(log, NAMES, entries)

    def test_many_swaps_of_six_items(self):
        names = ["f", "b", "e", "c", "a", "d"]
        chance = random.Random(2)
        log, entries = SwapLog(Base(names)), []
        cancelled = []
        for step in range(300):
            index, reason = chance.randrange(5), chance.choice(REASONS)
            before = len(entries)
            entries, position = model_swap(names, entries, index, reason)
            self.assertEqual(log.swap(index, reason=reason), position)
            self.check_log(log, names, entries)
            if position is not None:
                cancelled.append((position == 0, position == before - 1))
        # The first, the last and a middle entry were cancelled.
        self.assertLessEqual({(True, False), (False, True), (False, False)}, set(cancelled))

    def test_one_item(self):
        log = SwapLog(Base(["only"]))
        self.assertEqual([log.move("only", 0), log.adopt(["only"]), log.clear_entries()], [(0, 0), (0, 0), None])
        self.check_log(log, ["only"], [])


class MoveTest(LogCase):
    def test_left_right_and_both_ends(self):
        log = SwapLog(Base(NAMES))
        self.assertEqual(repr(log.move("k", 0, reason="late")), "(3, 0)")
        self.check_log(log, NAMES, [(2, "late"), (1, "late"), (0, "late")])
        self.assertEqual(repr(log.move("m", 3)), "(2, 0)")
        self.check_log(log, NAMES, [(2, "late"), (1, "late"), (0, "late"), (1, ""), (2, "")])
        self.assertEqual(log.order(), ["k", "z", "a", "m"])
        self.assertEqual(repr(log.move("k", 3, reason="back")), "(0, 3)")
        self.check_log(log, NAMES, [(0, "late"), (1, "")])
        self.assertEqual(log.order(), ["z", "a", "m", "k"])
        self.assertEqual(repr(log.move("m", 0)), "(0, 2)")
        self.check_log(log, NAMES, [])

    def test_to_its_own_place(self):
        for log, entries in some_logs():
            for at, item in enumerate(log.order()):
                self.assertEqual(repr(log.move(item, at, reason="same")), "(0, 0)")
                self.check_log(log, NAMES, entries)

    def test_every_item_to_every_index(self):
        for log, entries in some_logs():
            for item, index in product(NAMES, range(4)):
                with self.subTest(log=log, item=item, index=index):
                    changed = log.clone()
                    start = log.order().index(item)
                    steps = list(range(start, index)) or list(range(start - 1, index - 1, -1))
                    expected, counts = model_swaps(NAMES, entries, steps, "moved")
                    self.assertEqual(repr(changed.move(item, index, reason="moved")), repr(counts))
                    self.check_log(changed, NAMES, expected)
                    self.assertEqual(changed.order().index(item), index)
                    others = [name for name in log.order() if name != item]
                    self.assertEqual([name for name in changed.order() if name != item], others)

    def test_forty_items(self):
        names = forty_names()
        log = SwapLog(Base(names))
        self.assertEqual(log.move(names[0], 39), (39, 0))
        self.assertEqual(log.order(), names[1:] + names[:1])
        self.assertEqual(log.move(names[39], 0), (38, 0))
        self.assertEqual(log.order(), names[39:] + names[1:39] + names[:1])
        self.assertEqual(log.move(names[0], 0), (0, 39))
        self.assertEqual(log.order(), names[:1] + names[39:] + names[1:39])
        self.assertEqual(len(log), 38)


class AdoptTest(LogCase):
    def test_every_order(self):
        for log, entries in some_logs():
            for order in all_orders(NAMES):
                with self.subTest(log=log, order=order):
                    changed, passed = log.clone(), list(order)
                    swaps = swaps_between(Base(NAMES), log.order(), order)
                    expected, counts = model_swaps(NAMES, entries, swaps, "adopted")
                    self.assertEqual(repr(changed.adopt(passed, reason="adopted")), repr(counts))
                    self.assertEqual(sum(counts), len(swaps))
                    self.check_log(changed, NAMES, expected)
                    self.assertEqual(changed.order(), order)
                    self.assertEqual(passed, order)

    def test_own_reversed_and_current_order(self):
        log = SwapLog(Base(NAMES))
        self.assertEqual(log.adopt(NAMES[::-1], reason="turn"), (6, 0))
        self.check_log(log, NAMES, [(index, "turn") for index in [0, 1, 0, 2, 1, 0]])
        self.assertEqual(log.adopt(log.order(), reason="same"), (0, 0))
        self.check_log(log, NAMES, [(index, "turn") for index in [0, 1, 0, 2, 1, 0]])
        self.assertEqual(log.adopt(list(NAMES)), (0, 6))
        self.check_log(log, NAMES, [])

    def test_later_changes_of_the_order_have_no_effect(self):
        log, order = SwapLog(Base(NAMES)), NAMES[::-1]
        log.adopt(order)
        order.clear()
        self.assertEqual(log.order(), NAMES[::-1])

    def test_forty_items(self):
        names = forty_names()
        log = SwapLog(Base(names))
        self.assertEqual(log.adopt(names[::-1]), (780, 0))
        self.assertEqual((len(log), log.order()), (780, names[::-1]))
        self.assertEqual(log.adopt(names), (0, 780))
        self.assertEqual((log.entries(), log.order()), ([], names))


class RemoveTest(LogCase):
    def test_an_entry_on_which_nothing_depends(self):
        log, entries = log_of(NAMES, [0, 2])
        self.assertEqual(log.remove_entry(0), [0])
        self.check_log(log, NAMES, [(2, "b")])
        log, entries = log_of(NAMES, [0, 1, 2])
        self.assertEqual(log.remove_entry(2), [2])
        self.check_log(log, NAMES, [(0, "a"), (1, "b")])

    def test_later_entries_turn_into_inward_swaps(self):
        log, entries = log_of(NAMES, [0, 1, 0])
        self.assertEqual(log.remove_entry(1), [0, 1, 2])
        self.check_log(log, NAMES, [])
        log, entries = log_of(NAMES, [0, 1, 0, 2, 1, 0])
        self.assertEqual(log.remove_entry(1), [0, 1, 2])
        self.check_log(log, NAMES, [(2, "d"), (1, "e"), (0, "f")])
        # The inward swap cancels an entry that does not stand directly before it.
        log, entries = log_of(NAMES, [2, 0, 1, 0, 2])
        self.assertEqual(log.remove_entry(2), [0, 1, 2, 3, 4])
        self.check_log(log, NAMES, [])

    def test_every_entry(self):
        for log, entries in some_logs():
            for position in range(len(entries)):
                with self.subTest(log=log, position=position):
                    changed = log.clone()
                    expected, gone = model_remove(NAMES, entries, position)
                    self.assertIn(position, gone)
                    self.assertEqual(repr(changed.remove_entry(position)), repr(gone))
                    self.check_log(changed, NAMES, expected)
                    self.assertEqual(len(gone) + len(changed), len(entries))

    def test_many_entries_of_six_items(self):
        names = ["f", "b", "e", "c", "a", "d"]
        chance = random.Random(3)
        for turn in range(60):
            log = SwapLog(Base(names))
            while len(log) < 12:
                log.swap(chance.randrange(5), reason=chance.choice(REASONS))
            position = chance.randrange(12)
            expected, gone = model_remove(names, log.entries(), position)
            self.assertEqual(log.remove_entry(position), gone)
            self.check_log(log, names, expected)

    def test_clear(self):
        for log, entries in some_logs():
            self.assertIsNone(log.clear_entries())
            self.check_log(log, NAMES, [])
            self.assertEqual(log.order(), NAMES)
            self.assertIsNone(log.swap(1, reason="anew"))
            self.check_log(log, NAMES, [(1, "anew")])


class QueryTest(LogCase):
    def test_order_after(self):
        for log, entries in some_logs():
            orders = [log.order_after(count) for count in range(len(entries) + 1)]
            self.assertEqual(orders, [replay(NAMES, entries[:count])[0] for count in range(len(entries) + 1)])
            self.assertEqual((orders[0], orders[-1]), (NAMES, log.order()))
            self.check_log(log, NAMES, entries)

    def test_pair_at_and_entry_for(self):
        for log, entries in some_logs():
            pairs = [log.pair_at(position) for position in range(len(log))]
            self.assertEqual(repr(pairs), repr(replay(NAMES, entries)[1]))
            for first, second in product(NAMES, repeat=2):
                expected = [at for at, pair in enumerate(pairs) if set(pair) == {first, second}] or [None]
                with self.subTest(log=log, first=first, second=second):
                    self.assertEqual(repr(log.entry_for(first, second)), repr(expected[0]))
                    self.assertEqual(repr(log.entry_for(second, first)), repr(expected[0]))
            self.check_log(log, NAMES, entries)

    def test_pair_of_an_entry_changes_if_an_earlier_one_is_cancelled(self):
        log = log_from_entries(Base(NAMES), [(0, ""), (1, ""), (0, "")])
        self.assertEqual([log.pair_at(at) for at in range(3)], [("m", "z"), ("m", "a"), ("z", "a")])
        log.swap(1)
        self.assertEqual([log.pair_at(at) for at in range(2)], [("z", "a"), ("m", "a")])
        self.assertEqual([log.entry_for("a", "m"), log.entry_for("a", "z"), log.entry_for("m", "z")], [1, 0, None])


if __name__ == "__main__":
    unittest.main()
