import unittest

import helper
from racewise.clocks import ahead, clocks
from racewise.deeds import Row

BIG = helper.BIG


def pairs_ahead(many, deeds):
    row = Row(many, deeds)
    places = range(row.size)
    return [(one, other) for one in places for other in places if ahead(row, one, other)]


class Ahead(unittest.TestCase):
    def holds(self, many, deeds, pairs):
        self.assertEqual(pairs_ahead(many, deeds), sorted(pairs))

    def test_own_thread(self):
        self.holds(1, [(0, "read", 0), (0, "write", 1), (0, "take", 0)], [(0, 1), (0, 2), (1, 2)])

    def test_threads_apart(self):
        # The names and the word write set nothing ahead.
        deeds = [(0, "fork", 1), (0, "write", 0), (1, "write", 0), (0, "read", 0), (1, "read", 0)]
        self.holds(2, deeds, [(0, 1), (0, 2), (0, 3), (0, 4), (1, 3), (2, 4)])

    def test_fork_ahead_of_each_deed_of_the_forked(self):
        deeds = [(0, "read", 0), (0, "fork", 1), (0, "read", 0), (1, "read", 0), (1, "write", 0)]
        told = pairs_ahead(2, deeds)
        for pair in [(0, 3), (0, 4), (1, 3), (1, 4)]:
            self.assertIn(pair, told)
        for pair in [(2, 3), (2, 4)]:
            self.assertNotIn(pair, told)

    def test_fork_ahead_of_a_wait_for_one_that_did_nothing(self):
        deeds = [(0, "fork", 1), (0, "fork", 2), (1, "wait", 2), (1, "read", 0)]
        self.holds(3, deeds, [(0, 1), (0, 2), (0, 3), (1, 2), (1, 3), (2, 3)])

    def test_fork_by_another_ahead_of_each_wait(self):
        deeds = [(0, "fork", 1), (0, "fork", 2), (1, "fork", 3), (2, "read", 0), (2, "wait", 3), (0, "wait", 3)]
        told = pairs_ahead(4, deeds)
        self.assertIn((2, 4), told)
        self.assertIn((2, 5), told)
        self.assertNotIn((2, 3), told)
        self.assertNotIn((3, 5), told)
        self.assertNotIn((4, 5), told)

    def test_each_deed_of_a_thread_ahead_of_each_wait_for_it(self):
        deeds = [
            (0, "fork", 1), (0, "fork", 2), (1, "read", 0), (1, "write", 0), (2, "read", 0),
            (2, "wait", 1), (0, "read", 0), (0, "wait", 1),
        ]
        told = pairs_ahead(3, deeds)
        for pair in [(2, 5), (3, 5), (2, 7), (3, 7)]:
            self.assertIn(pair, told)
        for pair in [(2, 4), (3, 4), (2, 6), (3, 6), (5, 7), (4, 7)]:
            self.assertNotIn(pair, told)

    def test_wait_for_thread_0(self):
        deeds = [(0, "fork", 1), (0, "write", 0), (1, "read", 0), (1, "wait", 0), (1, "read", 0)]
        told = pairs_ahead(2, deeds)
        self.assertIn((1, 3), told)
        self.assertIn((1, 4), told)
        self.assertNotIn((1, 2), told)

    def test_give_ahead_of_each_later_take(self):
        deeds = [
            (0, "fork", 1), (0, "fork", 2), (0, "take", 5), (0, "give", 5), (0, "read", 0),
            (1, "read", 0), (1, "take", 5), (1, "give", 5), (2, "take", 5), (1, "take", 6),
        ]
        told = pairs_ahead(3, deeds)
        for pair in [(2, 6), (3, 6), (3, 7), (3, 8), (6, 8), (7, 8), (3, 9)]:
            self.assertIn(pair, told)
        for pair in [(3, 5), (4, 6), (4, 8), (8, 9), (2, 5)]:
            self.assertNotIn(pair, told)

    def test_give_ahead_of_a_take_by_its_own_thread_and_back(self):
        deeds = [
            (0, "fork", 1), (0, "take", 0), (0, "give", 0), (0, "take", 0), (0, "write", 0), (0, "give", 0),
            (1, "take", 0), (1, "give", 0), (0, "take", 0),
        ]
        told = pairs_ahead(2, deeds)
        for pair in [(2, 3), (4, 6), (5, 6), (6, 8), (7, 8)]:
            self.assertIn(pair, told)

    def test_other_locks_and_takes_set_nothing_ahead(self):
        deeds = [(0, "fork", 1), (0, "take", BIG), (0, "give", BIG), (1, "take", BIG - 1), (1, "take", BIG)]
        told = pairs_ahead(2, deeds)
        self.assertNotIn((2, 3), told)
        self.assertIn((2, 4), told)
        self.assertIn((1, 4), told)

    def test_a_name_numbered_as_a_lock_or_thread_is_none(self):
        deeds = [(0, "fork", 1), (0, "write", 1), (1, "read", 1), (1, "take", 1), (0, "read", 1), (1, "give", 1)]
        self.holds(2, deeds, [(0, k) for k in range(1, 6)] + [(1, 4), (2, 3), (2, 5), (3, 5)])

    def test_through_third_deeds(self):
        # By a fork of a fork, a lock handed on, and a wait for the last one.
        deeds = [
            (0, "read", 0), (0, "fork", 1), (1, "fork", 2), (0, "fork", 3), (2, "write", 0), (2, "take", 0),
            (2, "give", 0), (3, "take", 0), (3, "read", 0), (0, "read", 1), (0, "wait", 3), (0, "read", 2),
        ]
        told = pairs_ahead(4, deeds)
        for pair in [(0, 4), (1, 7), (2, 4), (4, 7), (4, 8), (4, 10), (2, 11), (6, 11), (5, 8)]:
            self.assertIn(pair, told)
        for pair in [(3, 4), (4, 9), (9, 7), (2, 3)]:
            self.assertNotIn(pair, told)

    def test_truths(self):
        row = Row(1, [(0, "read", 0), (0, "read", 0)])
        self.assertIs(ahead(row, 0, 1), True)
        self.assertIs(ahead(row, 1, 0), False)
        self.assertIs(ahead(row, 0, 0), False)
        self.assertIs(ahead(row, 1, 1), False)


class Clocks(unittest.TestCase):
    def test_a_row_by_hand(self):
        deeds = [
            (0, "fork", 1), (1, "write", 0), (0, "take", 0), (0, "give", 0), (1, "take", 0), (0, "read", 0),
            (0, "wait", 1),
        ]
        wanted = [[1, 0, 0], [1, 1, 0], [2, 0, 0], [3, 0, 0], [3, 2, 0], [4, 0, 0], [5, 2, 0]]
        self.assertEqual(clocks(Row(3, deeds)), wanted)

    def test_empty_rows(self):
        for many in range(1, 7):
            self.assertEqual(clocks(Row(many, [])), [])

    def test_threads_without_a_deed(self):
        self.assertEqual(clocks(Row(6, [(0, "read", 0)])), [[1, 0, 0, 0, 0, 0]])
        deeds = [(0, "fork", 2), (0, "wait", 2), (0, "wait", 2)]
        self.assertEqual(clocks(Row(4, deeds)), [[1, 0, 0, 0], [2, 0, 0, 0], [3, 0, 0, 0]])

    def test_sixty_deeds(self):
        self.assertEqual(clocks(Row(1, [(0, "read", 0)] * 60)), [[k] for k in range(1, 61)])

    def test_the_kinds(self):
        told = clocks(Row(2, [(0, "fork", 1), (1, "read", 0)]))
        self.assertIs(type(told), list)
        for clock in told:
            self.assertIs(type(clock), list)
            self.assertEqual([type(number) for number in clock], [int, int])

    def test_told_lists_are_the_askers_own(self):
        deeds = [
            (0, "fork", 1), (0, "take", 0), (0, "give", 0), (1, "take", 0), (1, "give", 0), (0, "wait", 1),
        ]
        row = Row(2, deeds)
        wanted = clocks(row)
        self.assertEqual(len(set(id(clock) for clock in wanted)), len(deeds))
        told = clocks(row)
        for clock in told:
            clock[0] = 99
            clock.append(7)
        told.clear()
        self.assertEqual(clocks(row), wanted)
        self.assertIs(ahead(row, 2, 3), True)
        self.assertIs(ahead(row, 4, 1), False)
        self.assertEqual(row.deeds(), deeds)


class Agreement(unittest.TestCase):
    def agrees(self, many, deeds):
        row = Row(many, deeds)
        told = clocks(row)
        table = helper.slow_ahead(deeds)
        self.assertEqual(told, helper.slow_clocks(many, deeds), (many, deeds))
        for one in range(row.size):
            thread = deeds[one][0]
            for other in range(row.size):
                if one != other:
                    self.assertEqual(told[other][thread] >= told[one][thread], table[one][other], (many, deeds))

    def asks(self, many, deeds):
        row = Row(many, deeds)
        table = helper.slow_ahead(deeds)
        for one in range(row.size):
            for other in range(row.size):
                self.assertIs(ahead(row, one, other), table[one][other], (many, deeds, one, other))
                if one >= other:
                    self.assertFalse(table[one][other])

    def test_all_short_rows(self):
        for deeds in helper.all_rows(2, 5, range(2), ["read", "take", "give", "fork", "wait"]):
            self.agrees(2, deeds)

    def test_all_short_rows_of_three(self):
        for deeds in helper.all_rows(3, 5, range(3), ["write", "fork", "wait"]):
            self.agrees(3, deeds)
        for deeds in helper.all_rows(3, 3, range(3)):
            self.asks(3, deeds)

    def test_many_long_rows(self):
        for many, deeds in helper.some_rows(6, 120):
            self.agrees(many, deeds)
        for many, deeds in helper.some_rows(5, 40, (0, 25)):
            self.asks(many, deeds)


if __name__ == "__main__":
    unittest.main()
