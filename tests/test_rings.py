import random
import unittest

import helper
from racewise.deeds import Row
from racewise.holds import held
from racewise.rings import ring

BIG = helper.BIG


def forks(many):
    return [(0, "fork", thread) for thread in range(1, many)]


def nest(thread, *locks):
    """Takes the locks in this order and gives them back."""
    return [(thread, "take", lock) for lock in locks] + [(thread, "give", lock) for lock in locks]


def round_of(many, locks):
    """Each thread holds its lock and takes the next one's."""
    deeds = forks(many)
    for thread in range(many):
        deeds += nest(thread, locks[thread], locks[(thread + 1) % many])
    return deeds


def some_nests(source):
    """Locks that stand in a round, each taken while the one before it is held, at times behind a guard."""
    many = source.randint(3, 6)
    number = source.randint(3, many)
    deeds = forks(many)
    for step in range(source.randint(number, 9)):
        lock = source.randrange(number)
        guard = [source.choice([7, 8])] if source.randint(0, 2) == 0 else []
        deeds += nest(source.randrange(many), *guard, lock, (lock + 1) % number)
    return many, deeds


class Rings(unittest.TestCase):
    def is_ring(self, many, deeds):
        row = Row(many, deeds)
        told = ring(row)
        self.assertIs(type(told), list, (many, deeds))
        self.assertEqual([type(place) for place in told], [int] * len(told))
        self.assertTrue(all(0 <= place < len(deeds) for place in told), (many, deeds, told))
        self.assertTrue(helper.slow_is_ring(deeds, helper.slow_held(deeds), told), (many, deeds, told))
        self.assertEqual(row.deeds(), deeds)
        return told

    def is_none(self, many, deeds):
        self.assertIsNone(ring(Row(many, deeds)), (many, deeds))

    def test_two_threads(self):
        deeds = [
            (0, "fork", 1), (0, "take", 3), (0, "take", 7), (0, "give", 7), (0, "give", 3),
            (1, "take", 7), (1, "take", 3),
        ]
        self.assertEqual(sorted(self.is_ring(2, deeds)), [2, 6])

    def test_the_lock_that_each_takes_is_held_at_the_next_one(self):
        deeds = round_of(3, [10, 11, 12])
        told = self.is_ring(3, deeds)
        threads = [deeds[place][0] for place in told]
        self.assertIn(threads, ([0, 1, 2], [1, 2, 0], [2, 0, 1]))
        # Round the other way the threads come in the other order.
        deeds = forks(3) + nest(0, 10, 12) + nest(1, 11, 10) + nest(2, 12, 11)
        threads = [deeds[place][0] for place in self.is_ring(3, deeds)]
        self.assertIn(threads, ([0, 2, 1], [2, 1, 0], [1, 0, 2]))

    def test_two_to_six_threads(self):
        for many in range(2, 7):
            for locks in ([0, 1, 2, 3, 4, 5], [5, 3, 4, 0, 2, 1], [BIG - number for number in range(6)]):
                told = self.is_ring(many, round_of(many, locks))
                self.assertEqual(len(told), many)
                # With one take fewer nothing is left of it.
                for place in told:
                    deed = round_of(many, locks)[place]
                    rest = [other for other in round_of(many, locks) if other[0] != deed[0] or other[1:2] == ("fork",)]
                    self.is_none(many, rest)

    def test_some_of_the_threads(self):
        deeds = forks(6) + nest(5, 1, 2) + nest(0, 1, 3) + nest(3, 3, 2) + nest(2, 2, 1) + nest(4, 2, 3)
        self.is_ring(6, deeds)
        deeds = forks(6) + nest(4, 1, 2) + nest(2, 2, 1)
        self.assertEqual(sorted(deeds[place][0] for place in self.is_ring(6, deeds)), [2, 4])

    def test_one_order(self):
        self.is_none(2, forks(2) + nest(0, 1, 2) + nest(1, 1, 2))
        self.is_none(3, forks(3) + nest(0, 1, 2) + nest(1, 2, 3) + nest(2, 1, 3))
        self.is_none(3, forks(3) + nest(0, 1, 2, 3) + nest(1, 2, 3) + nest(2, 1, 2, 3) + nest(0, 1, 3))

    def test_one_thread(self):
        self.is_none(1, nest(0, 1, 2) + nest(0, 2, 1))
        self.is_none(2, forks(2) + nest(0, 1, 2) + nest(0, 2, 1))
        self.is_none(2, forks(2) + nest(1, 1, 2) + nest(1, 2, 1) + nest(0, 1) + nest(0, 2))

    def test_a_further_lock_at_both(self):
        self.is_none(2, forks(2) + nest(0, 9, 1, 2) + nest(1, 9, 2, 1))
        self.is_none(3, forks(3) + nest(0, 9, 1, 2) + nest(1, 2, 3) + nest(2, 9, 3, 1))
        # Held at one of them alone, it shuts nobody out.
        self.is_ring(2, forks(2) + nest(0, 9, 1, 2) + nest(1, 2, 1))
        self.is_ring(2, forks(2) + nest(0, 9, 1, 2) + nest(1, 8, 2, 1))

    def test_a_further_lock_at_two_that_are_not_side_by_side(self):
        nests = [nest(0, 1, 2), nest(1, 2, 3), nest(2, 3, 4), nest(3, 4, 1)]
        self.is_ring(4, forks(4) + sum(nests, []))
        nests[0] = nest(0, 9, 1, 2)
        self.is_ring(4, forks(4) + sum(nests, []))
        nests[2] = nest(2, 9, 3, 4)
        self.is_none(4, forks(4) + sum(nests, []))

    def test_another_take_than_the_guarded_one(self):
        guarded = nest(0, 9, 1, 2) + nest(1, 9, 2, 1)
        self.is_none(2, forks(2) + guarded)
        self.is_none(2, forks(2) + guarded + guarded)
        self.is_none(2, forks(2) + guarded + nest(0, 1) + nest(0, 2) + nest(0, 9))
        self.is_ring(2, forks(2) + guarded + nest(1, 2, 1))
        self.is_ring(2, forks(2) + nest(0, 1, 2) + guarded)

    def test_one_thread_twice(self):
        self.is_none(2, forks(2) + nest(0, 1, 2) + nest(1, 2, 3) + nest(0, 3, 1))
        self.is_ring(3, forks(3) + nest(0, 1, 2) + nest(1, 2, 3) + nest(2, 3, 1))
        self.is_none(3, forks(3) + nest(0, 1, 2) + nest(1, 2, 3) + nest(0, 3, 4) + nest(2, 4, 1))
        self.is_ring(4, forks(4) + nest(0, 1, 2) + nest(1, 2, 3) + nest(3, 3, 4) + nest(2, 4, 1))

    def test_a_lock_held_twice_round(self):
        # Both holders of lock 1 may be next behind thread 0, and only one of them leads back.
        deeds = forks(4) + nest(0, 2, 1) + nest(1, 1, 5) + nest(2, 1, 6) + nest(3, 6, 2)
        self.assertEqual(sorted(deeds[place][0] for place in self.is_ring(4, deeds)), [0, 2, 3])

    def test_a_lock_deep_below_others(self):
        self.is_ring(2, forks(2) + nest(0, 1, 5, 6, 7, 2) + nest(1, 2, 3, 4, 1))
        deeds = forks(2) + [(0, "take", 1), (0, "take", 5), (0, "give", 1), (0, "take", 2), (0, "give", 2)]
        self.is_none(2, deeds + [(0, "give", 5)] + nest(1, 2, 1))
        self.is_ring(2, deeds + [(0, "give", 5)] + nest(1, 2, 5))

    def test_what_is_given_or_not_yet_taken_is_not_held(self):
        self.is_none(2, forks(2) + nest(0, 1) + nest(0, 2) + nest(1, 2) + nest(1, 1))
        self.is_none(2, forks(2) + nest(0, 1, 2) + [(1, "take", 1), (1, "give", 1), (1, "take", 2), (1, "give", 2)])
        self.is_none(2, forks(2) + [(0, "take", 1), (1, "take", 2), (0, "give", 1), (1, "take", 1)])

    def test_locks_held_to_the_end(self):
        deeds = forks(3) + nest(0, 1, 2) + [(1, "take", 2), (1, "take", 1), (2, "take", 7), (0, "take", 8)]
        self.assertEqual(len(self.is_ring(3, deeds)), 2)

    def test_places_are_those_of_takes(self):
        # Names, and gives at which a lock is held, are no locks that are taken.
        self.is_none(2, forks(2) + [(0, "take", 1), (0, "write", 2), (0, "give", 1), (1, "take", 2), (1, "read", 1)])
        self.is_none(3, forks(3) + [(1, "take", 2), (2, "take", 1), (1, "wait", 0), (2, "wait", 1)])
        deeds = [(0, "fork", 1), (0, "take", 1), (1, "take", 2), (0, "give", 1), (1, "give", 2)]
        self.is_none(2, deeds)

    def test_whatever_is_ahead(self):
        # A ring is told by locks alone: here no free run could come to it.
        self.is_ring(2, nest(0, 1, 2) + forks(2) + nest(1, 2, 1))
        self.is_ring(2, forks(2) + nest(1, 2, 1) + [(0, "wait", 1)] + nest(0, 1, 2))

    def test_empty_rows(self):
        for many in range(1, 7):
            self.is_none(many, [])
            self.is_none(many, forks(many))

    def test_great_numbers(self):
        self.is_ring(2, forks(2) + nest(0, BIG, BIG - 1) + nest(1, BIG - 1, BIG))
        self.is_none(2, forks(2) + nest(0, BIG, BIG - 1) + nest(1, BIG - 1, BIG - 2))
        self.is_none(2, forks(2) + nest(0, BIG, BIG - 1) + nest(1, BIG, BIG - 1))
        self.is_ring(2, forks(2) + nest(0, 0, BIG) + nest(1, BIG, 0))

    def test_the_longest_rows(self):
        locks = list(range(55))
        self.is_none(6, forks(6) + [(thread, "take", 9 * thread + k) for thread in range(6) for k in range(9)])
        self.is_none(6, forks(6) + [(lock % 6, "take", lock) for lock in locks])
        deeds = forks(6)
        for thread in range(6):
            deeds += nest(thread, thread, (thread + 1) % 6) * 2
        self.is_ring(6, deeds)

    def test_told_lists_are_the_askers_own(self):
        deeds = round_of(4, [0, 1, 2, 3])
        row = Row(4, deeds)
        wanted = list(ring(row))
        told = ring(row)
        told.clear()
        told.extend([7, 7])
        self.assertEqual(ring(row), wanted)
        self.assertEqual(row.deeds(), deeds)
        self.assertEqual(held(row), helper.slow_held(deeds))

    def agrees(self, many, deeds):
        """How many takes the told ring has, 0 for None."""
        if helper.slow_has_ring(many, deeds):
            return len(self.is_ring(many, deeds))
        self.is_none(many, deeds)
        return 0

    def test_all_short_rows(self):
        found = {}
        for deeds in helper.all_rows(2, 7, range(2), ["take", "give"]):
            self.is_none(2, deeds)
        for deeds in helper.all_rows(2, 7, range(2), ["take", "give", "fork"]):
            if deeds[:1] == forks(2):
                size = self.agrees(2, deeds)
                found[size] = found.get(size, 0) + 1
        self.assertEqual(sorted(found), [0, 2])
        self.assertGreater(found[2], 5)

    def test_many_rows(self):
        found = {}
        rows = helper.some_lock_rows(20, 600, (8, 30)) + helper.some_lock_rows(21, 300, (40, 60))
        for many, deeds in rows:
            size = self.agrees(many, deeds)
            found[size] = found.get(size, 0) + 1
        for size in (0, 2, 3, 4):
            self.assertGreater(found.get(size, 0), 2, found)

    def test_many_nests(self):
        source = random.Random(25)
        found = {}
        for turn in range(1500):
            size = self.agrees(*some_nests(source))
            found[size] = found.get(size, 0) + 1
        for size in (0, 3, 4, 5):
            self.assertGreater(found.get(size, 0), 5, found)

    def test_rows_of_all_words(self):
        for many, deeds in helper.some_rows(22, 100, (0, 30)):
            self.agrees(many, deeds)

    def test_free_runs_that_go_round(self):
        found = {True: 0, False: 0}
        rows = helper.some_lock_rows(23, 300, (16, 24), 3) + helper.some_rows(24, 50, (6, 14))
        for many, deeds in rows:
            comes_round = any(run.goes_round() for run in helper.all_free_runs(many, deeds))
            found[comes_round] += 1
            if comes_round:
                self.is_ring(many, deeds)
        self.assertGreater(min(found.values()), 10, found)

    def test_free_runs_by_hand(self):
        def comes_round(many, deeds):
            return any(run.goes_round() for run in helper.all_free_runs(many, deeds))

        for many in range(2, 5):
            deeds = round_of(many, [0, 1, 2, 3])
            self.assertTrue(comes_round(many, deeds))
            self.is_ring(many, deeds)
        self.assertFalse(comes_round(2, nest(0, 1, 2) + forks(2) + nest(1, 2, 1)))
        self.assertFalse(comes_round(2, forks(2) + nest(0, 9, 1, 2) + nest(1, 9, 2, 1)))


if __name__ == "__main__":
    unittest.main()
