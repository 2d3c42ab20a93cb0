import unittest

import helper
from racewise.deeds import Row
from racewise.holds import guards, held, warned
from racewise.races import races

BIG = helper.BIG
FORK1 = (0, "fork", 1)
FORK2 = (0, "fork", 2)

# Name 0 is guarded by lock 5 alone, name 1 by none, though each of its deeds has a lock.
GUARDED = [
    FORK1, (0, "take", 9), (0, "take", 5), (0, "write", 0), (0, "read", 1), (0, "give", 9), (0, "give", 5),
    (1, "take", 5), (1, "read", 0), (1, "give", 5), (1, "take", 2), (1, "write", 1), (1, "give", 2),
]


class Held(unittest.TestCase):
    def holds(self, many, deeds, wanted):
        self.assertEqual(held(Row(many, deeds)), wanted)

    def test_not_what_is_taken_but_what_is_given(self):
        deeds = [(0, "read", 0), (0, "take", 4), (0, "read", 0), (0, "give", 4), (0, "read", 0)]
        self.holds(1, deeds, [[], [], [4], [4], []])

    def test_several_locks_rise(self):
        deeds = [(0, "take", 7), (0, "take", 3), (0, "take", 5), (0, "write", 0), (0, "give", 5), (0, "give", 7)]
        self.holds(1, deeds + [(0, "read", 0)], [[], [7], [3, 7], [3, 5, 7], [3, 5, 7], [3, 7], [3]])

    def test_rising_by_number(self):
        deeds = [(0, "take", lock) for lock in (10, 9, 100, 0, 2)] + [(0, "read", 0)]
        self.assertEqual(held(Row(1, deeds))[-1], [0, 2, 9, 10, 100])

    def test_each_thread_holds_its_own(self):
        deeds = [(0, "take", 1), FORK1, (1, "read", 0), (1, "take", 2), (0, "read", 0), (1, "read", 0), (0, "give", 1)]
        self.holds(2, deeds, [[], [1], [], [], [1], [2], [1]])

    def test_a_lock_held_to_the_end(self):
        deeds = [FORK1, (1, "take", 3), (1, "read", 0), (0, "read", 0), (0, "wait", 1), (0, "read", 0)]
        self.holds(2, deeds, [[], [], [3], [], [], []])
        self.holds(1, [(0, "take", 3)] + [(0, "read", 3)] * 59, [[]] + [[3]] * 59)

    def test_taken_again(self):
        deeds = [(0, "take", 3), (0, "give", 3), FORK1, (1, "take", 3), (1, "give", 3), (0, "take", 3), (0, "read", 0)]
        self.holds(2, deeds, [[], [3], [], [], [3], [], [3]])

    def test_each_word(self):
        deeds = [(0, "take", 8), FORK1, (0, "wait", 1), (0, "read", 8), (0, "write", 8), (0, "take", 6), (0, "give", 6)]
        self.holds(2, deeds, [[], [8], [8], [8], [8], [8], [6, 8]])

    def test_great_numbers(self):
        deeds = [(0, "take", BIG), (0, "take", BIG - 1), (0, "take", 0), (0, "give", BIG), (0, "read", BIG)]
        self.holds(1, deeds, [[], [BIG], [BIG - 1, BIG], [0, BIG - 1, BIG], [0, BIG - 1]])

    def test_empty_rows(self):
        self.holds(1, [], [])
        self.holds(6, [], [])

    def test_told_lists_are_the_askers_own(self):
        row = Row(2, GUARDED)
        wanted = helper.slow_held(GUARDED)
        told = held(row)
        self.assertIs(type(told), list)
        self.assertEqual(len(set(id(locks) for locks in told)), row.size)
        for locks in told:
            self.assertIs(type(locks), list)
            locks.append(0)
            locks[0] = 99
        self.assertEqual(held(row), wanted)
        told.clear()
        self.assertEqual(held(row), wanted)
        self.assertEqual(guards(row, 0), [5])
        self.assertEqual(warned(row), [(4, 11)])
        self.assertEqual(row.deeds(), GUARDED)

    def test_all_short_rows(self):
        for deeds in helper.all_rows(2, 5, range(2), ["read", "take", "give", "fork", "wait"]):
            self.holds(2, deeds, helper.slow_held(deeds))

    def test_many_long_rows(self):
        for many, deeds in helper.some_rows(13, 100):
            self.holds(many, deeds, helper.slow_held(deeds))


class Guards(unittest.TestCase):
    def holds(self, many, deeds, name, wanted):
        self.assertEqual(guards(Row(many, deeds), name), wanted)

    def test_the_locks_at_each_read_and_write(self):
        self.holds(2, GUARDED, 0, [5])
        self.holds(2, GUARDED, 1, [])

    def test_several_rise(self):
        deeds = [(0, "take", 10), (0, "take", 9), (0, "take", 2), (0, "read", 0), (0, "give", 2), (0, "write", 0)]
        self.holds(1, deeds, 0, [9, 10])
        self.holds(1, deeds[:4], 0, [2, 9, 10])

    def test_one_deed_without_a_lock(self):
        deeds = [(0, "take", 1), (0, "write", 0), (0, "give", 1)]
        self.holds(1, deeds, 0, [1])
        for word in ("read", "write"):
            self.holds(1, deeds + [(0, word, 0)], 0, [])
            self.holds(1, [(0, word, 0)] + deeds, 0, [])
            self.holds(1, deeds + [(0, word, 3)], 0, [1])

    def test_deeds_of_one_thread_and_reads_alone_count(self):
        deeds = [(0, "take", 1), (0, "read", 0), (0, "take", 2), (0, "read", 0)]
        self.holds(1, deeds, 0, [1])

    def test_a_name_without_a_read_or_write(self):
        for name in (0, 7, BIG, -1):
            self.holds(1, [], name, None)
            self.holds(1, [(0, "take", 3), (0, "write", 8)], name, None)

    def test_locks_and_threads_numbered_as_the_name(self):
        deeds = [(0, "take", 1), FORK1, (0, "wait", 1), (0, "give", 1)]
        self.holds(2, deeds, 1, None)
        # At the give lock 1 is held, but nothing is at the write.
        self.holds(2, deeds + [(0, "write", 1)], 1, [])
        self.holds(1, [(0, "take", 1), (0, "write", 1), (0, "give", 1)], 1, [1])

    def test_great_numbers(self):
        deeds = [(0, "take", BIG), (0, "take", BIG - 1), (0, "read", BIG), (0, "give", BIG - 1), (0, "write", BIG)]
        self.holds(1, deeds, BIG, [BIG])
        self.holds(1, deeds, BIG - 1, None)

    def test_told_lists_are_the_askers_own(self):
        for deeds in (GUARDED, GUARDED[:5]):
            row = Row(2, deeds)
            wanted = guards(row, 0)
            told = guards(row, 0)
            self.assertIs(type(told), list)
            told.append(77)
            told[0] = 99
            self.assertEqual(guards(row, 0), wanted)
            self.assertEqual(held(row), helper.slow_held(deeds))
            self.assertEqual(row.deeds(), deeds)

    def test_all_short_rows(self):
        for deeds in helper.all_rows(2, 5, range(2), ["read", "write", "take", "give", "fork"]):
            for name in range(3):
                self.holds(2, deeds, name, helper.slow_guards(deeds, name))

    def test_many_long_rows(self):
        for many, deeds in helper.some_rows(14, 100):
            for name in (0, 1, 2, BIG):
                self.holds(many, deeds, name, helper.slow_guards(deeds, name))


class Warned(unittest.TestCase):
    def holds(self, many, deeds, pairs):
        self.assertEqual(warned(Row(many, deeds)), pairs)

    def test_a_write_and_a_read_or_a_write(self):
        for first, second in (("write", "read"), ("read", "write"), ("write", "write")):
            self.holds(2, [FORK1, (0, first, 4), (1, second, 4)], [(1, 2)])
        self.holds(2, [FORK1, (0, "read", 4), (1, "read", 4)], [])

    def test_one_thread_and_unlike_names(self):
        self.holds(1, [(0, "write", 4), (0, "write", 4)], [])
        self.holds(2, [FORK1, (0, "write", 4), (1, "write", 5)], [])
        self.holds(2, [FORK1, (0, "write", BIG), (1, "write", BIG - 1), (1, "read", BIG)], [(1, 3)])

    def test_a_lock_in_common(self):
        deeds = [
            FORK1, (0, "take", 0), (0, "write", 4), (0, "give", 0), (1, "take", 0), (1, "write", 4), (1, "give", 0),
        ]
        self.holds(2, deeds, [])
        # Behind its give, and ahead of its take, a lock is not held.
        self.holds(2, [deeds[k] for k in (0, 1, 3, 2, 4, 5, 6)], [(3, 5)])
        self.holds(2, [deeds[k] for k in (0, 1, 2, 3, 5, 4, 6)], [(2, 4)])

    def test_unlike_locks(self):
        deeds = [FORK1, (0, "take", 0), (0, "write", 4), (0, "give", 0), (1, "take", 1), (1, "write", 4)]
        self.holds(2, deeds, [(2, 5)])
        self.holds(2, deeds[:4] + [(1, "take", 0)] + deeds[4:], [])

    def test_warned_though_one_is_ahead(self):
        for many, deeds, pair in (
            (2, [(0, "write", 4), FORK1, (1, "write", 4)], (0, 2)),
            (2, [FORK1, (1, "write", 4), (0, "wait", 1), (0, "read", 4)], (1, 3)),
            (2, [FORK1, (0, "write", 4), (0, "take", 0), (0, "give", 0), (1, "take", 0), (1, "read", 4)], (1, 5)),
        ):
            self.assertEqual(races(Row(many, deeds)), [])
            self.holds(many, deeds, [pair])

    def test_locks_numbered_as_names(self):
        self.holds(2, [FORK1, (0, "take", 1), (1, "write", 1), (0, "give", 1)], [])
        self.holds(3, [FORK1, (1, "write", 2), (0, "fork", 2), (0, "wait", 2)], [])

    def test_each_pair_by_itself(self):
        # Three threads, two locks each: each pair has a lock in common, yet the name has no guard.
        deeds = [FORK1, FORK2]
        for thread, locks in ((0, (1, 2)), (1, (2, 3)), (2, (1, 3))):
            deeds += [(thread, "take", lock) for lock in locks] + [(thread, "write", 0)]
            deeds += [(thread, "give", lock) for lock in locks]
        self.holds(3, deeds, [])
        self.assertEqual(guards(Row(3, deeds), 0), [])

    def test_sorted_pairs(self):
        deeds = [FORK1, FORK2, (0, "write", 0), (1, "write", 5), (2, "read", 5), (1, "read", 0), (2, "write", 5)]
        told = warned(Row(3, deeds + [(2, "read", 0)]))
        self.assertEqual(told, [(2, 5), (2, 7), (3, 4), (3, 6)])
        self.assertIs(type(told), list)
        for pair in told:
            self.assertIs(type(pair), tuple)
            self.assertEqual([type(place) for place in pair], [int, int])

    def test_empty_rows(self):
        self.holds(1, [], [])
        self.holds(6, [], [])

    def test_told_lists_are_the_askers_own(self):
        row = Row(2, GUARDED)
        told = warned(row)
        told[0] = None
        told.append((0, 1))
        self.assertEqual(warned(row), [(4, 11)])
        self.assertEqual(row.deeds(), GUARDED)

    def agrees(self, many, deeds):
        row = Row(many, deeds)
        pairs = warned(row)
        self.assertEqual(pairs, helper.slow_warned(deeds), (many, deeds))
        for pair in races(row):
            self.assertIn(pair, pairs, (many, deeds))
        for one, other in pairs:
            self.assertEqual(guards(row, deeds[one][2]), [], (many, deeds))

    def test_all_short_rows(self):
        for deeds in helper.all_rows(2, 5, range(2), ["read", "write", "take", "give", "fork"]):
            self.agrees(2, deeds)

    def test_many_long_rows(self):
        for many, deeds in helper.some_rows(15, 100):
            self.agrees(many, deeds)


if __name__ == "__main__":
    unittest.main()
