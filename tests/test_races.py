import itertools
import random
import unittest

import helper
from racewise import errors
from racewise.deeds import Row
from racewise.races import beside, first_race, races, seen
from racewise.weavings import is_weaving, woven

BIG = helper.BIG
FORK1 = (0, "fork", 1)
FORK2 = (0, "fork", 2)

# Four races, of which the one with the least second place does not have the least first place.
MANY_RACES = [
    FORK1, FORK2, (0, "write", 0), (1, "write", 5), (2, "read", 5), (1, "read", 0), (2, "write", 5), (2, "read", 0),
]

# The write at 1 is ahead of the read at 6 through the lock, and that read ahead of the racing one at 7.
LOCKED = [
    FORK1, (0, "write", 0), (0, "take", 3), (0, "give", 3), (0, "write", 1), (1, "take", 3), (1, "read", 0),
    (1, "read", 1), (0, "write", 0), (1, "give", 3),
]


class Races(unittest.TestCase):
    def holds(self, many, deeds, pairs):
        self.assertEqual(races(Row(many, deeds)), pairs)

    def test_a_write_and_a_read_or_a_write(self):
        for first, second in (("write", "read"), ("read", "write"), ("write", "write")):
            self.holds(2, [FORK1, (0, first, 4), (1, second, 4)], [(1, 2)])
            self.holds(2, [FORK1, (1, first, 4), (0, second, 4)], [(1, 2)])

    def test_two_reads(self):
        self.holds(2, [FORK1, (0, "read", 4), (1, "read", 4)], [])

    def test_one_thread(self):
        self.holds(1, [(0, "write", 4), (0, "write", 4), (0, "read", 4)], [])
        self.holds(2, [FORK1, (1, "write", 4), (1, "read", 4)], [])

    def test_unlike_names(self):
        self.holds(2, [FORK1, (0, "write", 4), (1, "write", 5)], [])
        self.holds(2, [FORK1, (0, "write", BIG), (1, "write", BIG - 1)], [])
        self.holds(2, [FORK1, (0, "write", BIG), (1, "write", 10 ** 60 - 1)], [(1, 2)])

    def test_one_ahead_by_a_fork(self):
        self.holds(2, [(0, "write", 4), FORK1, (1, "write", 4)], [])

    def test_one_ahead_by_a_wait(self):
        self.holds(2, [FORK1, (1, "write", 4), (0, "wait", 1), (0, "write", 4)], [])
        self.holds(2, [FORK1, (0, "write", 4), (1, "wait", 0), (1, "write", 4)], [])

    def test_one_ahead_by_a_lock(self):
        deeds = [
            FORK1, (0, "take", 0), (0, "write", 4), (0, "give", 0), (1, "take", 0), (1, "write", 4), (1, "give", 0),
        ]
        self.holds(2, deeds, [])
        # What lies ahead of the give is ordered, too; what lies behind it, or ahead of the take, is not.
        self.holds(2, [FORK1, (0, "write", 4)] + [deeds[k] for k in (1, 3, 4, 5)], [])
        self.holds(2, [FORK1] + [deeds[k] for k in (1, 3, 2, 4, 5)], [(3, 5)])
        self.holds(2, [FORK1] + [deeds[k] for k in (1, 2, 3, 5, 4)], [(2, 4)])

    def test_unlike_locks(self):
        deeds = [FORK1, (0, "take", 0), (0, "write", 4), (0, "give", 0), (1, "take", 1), (1, "write", 4)]
        self.holds(2, deeds, [(2, 5)])

    def test_one_ahead_through_a_third_thread(self):
        self.holds(3, [FORK1, (1, "write", 4), (1, "fork", 2), (2, "write", 4)], [])
        self.holds(3, [FORK1, FORK2, (1, "write", 4), (2, "wait", 1), (0, "wait", 2), (0, "read", 4)], [])

    def test_locks_and_threads_numbered_as_names(self):
        self.holds(2, [FORK1, (0, "write", 1), (1, "take", 1), (0, "wait", 1)], [])
        self.holds(3, [FORK1, (0, "take", 1), (1, "write", 1), (1, "fork", 2), (0, "give", 1)], [])
        # A lock that is called like the name orders as any other one, and no more.
        self.holds(2, [FORK1, (0, "take", 1), (0, "write", 1), (1, "write", 1)], [(2, 3)])

    def test_empty_rows(self):
        for many in range(1, 7):
            self.holds(many, [], [])

    def test_sorted_pairs(self):
        self.holds(3, MANY_RACES, [(2, 5), (2, 7), (3, 4), (3, 6)])
        deeds = [FORK1, FORK2] + [(thread, "write", 0) for thread in (1, 2, 0)] * 2
        pairs = [(2, 3), (2, 4), (2, 6), (2, 7), (3, 4), (3, 5), (3, 7), (4, 5), (4, 6), (5, 6), (5, 7), (6, 7)]
        self.holds(3, deeds, pairs)

    def test_the_kinds(self):
        told = races(Row(3, MANY_RACES))
        self.assertIs(type(told), list)
        for pair in told:
            self.assertIs(type(pair), tuple)
            self.assertEqual([type(place) for place in pair], [int, int])

    def test_sixty_deeds(self):
        deeds = [FORK1] + [(place % 2, "write", 0) for place in range(1, 60)]
        wanted = [(one, other) for one in range(1, 60) for other in range(one + 1, 60, 2)]
        self.holds(2, deeds, wanted)

    def test_told_lists_are_the_askers_own(self):
        row = Row(3, MANY_RACES)
        wanted = races(row)
        told = races(row)
        told[0] = None
        told.clear()
        self.assertEqual(races(row), wanted)
        self.assertEqual(first_race(row), (3, 4))
        self.assertEqual(row.deeds(), MANY_RACES)

    def test_all_short_rows(self):
        for deeds in helper.all_rows(2, 5, range(2), ["read", "write", "fork", "take", "give"]):
            self.holds(2, deeds, helper.slow_races(deeds))
        for deeds in helper.all_rows(3, 5, range(3), ["write", "fork", "wait"]):
            self.holds(3, deeds, helper.slow_races(deeds))

    def test_many_long_rows(self):
        for many, deeds in helper.some_rows(9, 100):
            self.holds(many, deeds, helper.slow_races(deeds))


class Beside(unittest.TestCase):
    def refused(self, row, one, other):
        with self.assertRaises(errors.NoRace) as taken:
            beside(row, one, other)
        self.assertIsInstance(taken.exception, errors.RaceError)
        self.assertIsInstance(taken.exception, ValueError)
        for name in ("NoRow", "NoWeaving", "NoProgram", "NoMove", "TooGreat", "NoText", "NoWords"):
            self.assertNotIsInstance(taken.exception, getattr(errors, name))

    def holds(self, many, deeds, one, other):
        row = Row(many, deeds)
        told = beside(row, one, other)
        self.assertIs(type(told), list)
        self.assertEqual(told, helper.slow_beside(deeds, one, other), (many, deeds, one, other))
        self.assertIs(is_weaving(row, told), True)
        self.assertEqual(told.index(other), told.index(one) + 1)

    def test_a_row_by_hand(self):
        row = Row(2, LOCKED)
        self.assertEqual(races(row), [(4, 7), (6, 8)])
        self.assertEqual(beside(row, 4, 7), [0, 1, 2, 3, 5, 6, 4, 7, 8, 9])
        self.assertEqual(beside(row, 7, 4), [0, 1, 2, 3, 5, 6, 7, 4, 8, 9])
        self.assertEqual(beside(row, 6, 8), [0, 1, 2, 3, 4, 5, 6, 8, 7, 9])
        self.assertEqual(beside(row, 8, 6), [0, 1, 2, 3, 4, 5, 8, 6, 7, 9])

    def test_what_is_ahead_of_neither_stands_behind(self):
        deeds = [FORK1, FORK2, (0, "read", 3), (2, "read", 3), (1, "write", 0), (1, "read", 3), (2, "write", 0)]
        row = Row(3, deeds)
        self.assertEqual(beside(row, 4, 6), [0, 1, 3, 4, 6, 2, 5])
        self.assertEqual(beside(row, 6, 4), [0, 1, 3, 6, 4, 2, 5])

    def test_either_deed_as_the_one(self):
        for one, other in races(Row(3, MANY_RACES)):
            self.holds(3, MANY_RACES, one, other)
            self.holds(3, MANY_RACES, other, one)

    def test_deeds_that_do_not_race(self):
        for many, deeds in ((3, MANY_RACES), (2, LOCKED)):
            row = Row(many, deeds)
            pairs = races(row)
            for one in range(row.size):
                for other in range(row.size):
                    if (one, other) not in pairs and (other, one) not in pairs:
                        self.refused(row, one, other)
            self.assertEqual(row.deeds(), deeds)

    def test_one_place_twice(self):
        row = Row(2, [FORK1, (0, "write", 0), (1, "write", 0)])
        for place in range(3):
            self.refused(row, place, place)

    def test_what_is_no_place(self):
        row = Row(2, [FORK1, (0, "write", 0), (1, "write", 0)])
        for number in (-BIG, -3, -2, -1, 3, 4, BIG):
            for place in range(3):
                self.refused(row, number, place)
                self.refused(row, place, number)
            self.refused(row, number, number)
        self.refused(row, -2, -1)
        self.refused(Row(1, []), 0, 0)
        self.refused(Row(1, []), 0, 1)

    def test_taken_as_race_error_and_as_value_error(self):
        row = Row(2, [FORK1, (0, "read", 0), (1, "read", 0)])
        with self.assertRaises(errors.RaceError):
            beside(row, 1, 2)
        with self.assertRaises(ValueError):
            beside(row, 1, 2)

    def test_told_lists_are_the_askers_own(self):
        row = Row(2, LOCKED)
        wanted = beside(row, 7, 4)
        told = beside(row, 7, 4)
        told.reverse()
        told.pop()
        self.assertEqual(beside(row, 7, 4), wanted)
        self.assertEqual(row.deeds(), LOCKED)

    def test_all_short_rows(self):
        for deeds in helper.all_rows(2, 5, range(2), ["read", "write", "fork", "take", "give"]):
            pairs = helper.slow_races(deeds)
            for one, other in pairs:
                self.holds(2, deeds, one, other)
                self.holds(2, deeds, other, one)

    def test_all_pairs_of_short_rows(self):
        for deeds in helper.all_rows(2, 4, range(2), ["read", "write", "fork", "take", "give"]):
            pairs = helper.slow_races(deeds)
            for one, other in itertools.combinations(range(len(deeds)), 2):
                if (one, other) not in pairs:
                    self.refused(Row(2, deeds), one, other)

    def test_many_long_rows(self):
        source = random.Random(10)
        for many, deeds in helper.some_rows(10, 60):
            pairs = helper.slow_races(deeds)
            for one, other in source.sample(pairs, min(5, len(pairs))):
                self.holds(many, deeds, one, other)
                self.holds(many, deeds, other, one)


class Seen(unittest.TestCase):
    def test_the_last_write_at_a_lesser_place(self):
        deeds = [(0, "read", 0), (0, "write", 0), (0, "read", 0), (0, "write", 0), (0, "write", 1), (0, "read", 0)]
        self.assertEqual(seen(Row(1, deeds)), [None, None, 1, None, None, 3])

    def test_writes_of_all_threads(self):
        deeds = [FORK1, (0, "write", 0), (1, "write", 0), (0, "read", 0), (0, "write", 0), (1, "read", 0)]
        self.assertEqual(seen(Row(2, deeds)), [None, None, None, 2, None, 4])

    def test_a_write_at_place_0(self):
        told = seen(Row(1, [(0, "write", 7), (0, "read", 7)]))
        self.assertEqual(told, [None, 0])
        self.assertIs(type(told[1]), int)

    def test_unlike_names(self):
        deeds = [(0, "write", BIG), (0, "read", BIG - 1), (0, "read", 10 ** 60 - 1)]
        self.assertEqual(seen(Row(1, deeds)), [None, None, 0])

    def test_none_for_all_other_deeds(self):
        deeds = [(0, "write", 1), (0, "take", 1), (0, "give", 1), FORK1]
        deeds += [(0, "wait", 1), (0, "write", 1), (0, "read", 1)]
        self.assertEqual(seen(Row(2, deeds)), [None] * 6 + [5])

    def test_locks_and_threads_numbered_as_names(self):
        deeds = [(0, "take", 1), (0, "give", 1), FORK1, (0, "wait", 1), (0, "read", 1)]
        self.assertEqual(seen(Row(2, deeds)), [None] * 5)

    def test_empty_rows(self):
        self.assertEqual(seen(Row(1, [])), [])
        self.assertEqual(seen(Row(6, [])), [])

    def test_told_lists_are_the_askers_own(self):
        deeds = [(0, "write", 1), (0, "read", 1)]
        row = Row(1, deeds)
        told = seen(row)
        self.assertIs(type(told), list)
        told[1] = 9
        told.append(9)
        self.assertEqual(seen(row), [None, 0])
        self.assertEqual(row.deeds(), deeds)

    def test_all_short_rows(self):
        for deeds in helper.all_rows(2, 5, range(2), ["read", "write", "fork", "take"]):
            self.assertEqual(seen(Row(2, deeds)), helper.slow_seen(deeds), deeds)

    def test_many_long_rows(self):
        for many, deeds in helper.some_rows(11, 100):
            self.assertEqual(seen(Row(many, deeds)), helper.slow_seen(deeds), (many, deeds))


class FirstRace(unittest.TestCase):
    def sees_the_same(self, many, deeds):
        """Whether with the first race side by side each read ahead of either sees what it saw; how many they are."""
        row = Row(many, deeds)
        pair = first_race(row)
        if pair is None:
            return 0
        table = helper.slow_ahead(deeds)
        number = 0
        for one, other in (pair, pair[::-1]):
            order = beside(row, one, other)
            told = seen(woven(row, order))
            for place, write in enumerate(seen(row)):
                if deeds[place][1] == "read" and (table[place][one] or table[place][other]):
                    again = told[order.index(place)]
                    self.assertEqual(None if again is None else order[again], write, (many, deeds, place))
                    number += 1
        return number

    def test_the_least_second_place(self):
        self.assertEqual(first_race(Row(3, MANY_RACES)), (3, 4))

    def test_of_these_the_least_first_place(self):
        deeds = [FORK1, FORK2, (1, "read", 0), (2, "read", 0), (0, "write", 0), (1, "write", 0)]
        self.assertEqual(races(Row(3, deeds)), [(2, 4), (3, 4), (3, 5), (4, 5)])
        self.assertEqual(first_race(Row(3, deeds)), (2, 4))

    def test_one_race(self):
        told = first_race(Row(2, [FORK1, (0, "write", 0), (1, "read", 0)]))
        self.assertEqual(told, (1, 2))
        self.assertIs(type(told), tuple)

    def test_no_race(self):
        for many, deeds in (
            (1, []), (6, []), (1, [(0, "write", 0), (0, "read", 0)]), (2, [FORK1, (0, "read", 0), (1, "read", 0)]),
            (2, [(0, "write", 0), FORK1, (1, "read", 0)]),
        ):
            self.assertIsNone(first_race(Row(many, deeds)))

    def test_reads_ahead_of_it_see_the_same(self):
        self.assertEqual(first_race(Row(2, LOCKED)), (4, 7))
        self.assertEqual(seen(Row(2, LOCKED))[6], 1)
        self.assertEqual(self.sees_the_same(2, LOCKED), 2)

    def test_all_short_rows(self):
        for deeds in helper.all_rows(2, 5, range(2), ["read", "write", "fork", "take", "give"]):
            self.assertEqual(first_race(Row(2, deeds)), helper.slow_first_race(deeds), deeds)
            self.sees_the_same(2, deeds)

    def test_many_long_rows(self):
        number = 0
        for many, deeds in helper.some_rows(12, 100):
            self.assertEqual(first_race(Row(many, deeds)), helper.slow_first_race(deeds), (many, deeds))
            number += self.sees_the_same(many, deeds)
        # Else nothing would have been asked.
        self.assertGreater(number, 50)


if __name__ == "__main__":
    unittest.main()
