import itertools
import random
import unittest

import helper
from racewise import errors
from racewise.clocks import ahead, clocks
from racewise.deeds import Row
from racewise.weavings import is_weaving, woven

BIG = helper.BIG

# By each way in which one deed is ahead of another: the number of threads, the deeds, a weaving that is not
# the row's own order (None where there is none), and an order in which that way is broken.
WAYS = [
    ("own thread", 2, [(0, "fork", 1), (0, "read", 0), (0, "write", 0), (1, "read", 0)],
     [0, 3, 1, 2], [0, 2, 1, 3]),
    ("fork and a deed of the forked", 2, [(0, "fork", 1), (0, "read", 0), (1, "read", 0)],
     [0, 2, 1], [2, 0, 1]),
    ("fork and a wait for the forked", 4,
     [(0, "fork", 1), (0, "fork", 2), (1, "fork", 3), (2, "wait", 3), (0, "read", 0)],
     [0, 1, 4, 2, 3], [0, 1, 3, 2, 4]),
    ("a deed and a wait for its thread", 2, [(0, "fork", 1), (0, "read", 0), (1, "write", 0), (0, "wait", 1)],
     [0, 2, 1, 3], [0, 1, 3, 2]),
    ("a deed of thread 0 and a wait for it", 2, [(0, "fork", 1), (1, "read", 0), (0, "write", 0), (1, "wait", 0)],
     [0, 2, 1, 3], [0, 1, 3, 2]),
    ("a give and a later take", 2,
     [(0, "fork", 1), (0, "take", 7), (0, "give", 7), (1, "take", 7), (0, "read", 0)],
     [0, 1, 2, 4, 3], [0, 1, 3, 2, 4]),
    ("through a give and a take", 2,
     [(0, "fork", 1), (0, "take", 7), (0, "write", 0), (0, "give", 7), (1, "take", 7), (1, "read", 0),
      (1, "give", 7)],
     None, [0, 4, 5, 6, 1, 2, 3]),
    ("through a fork of a fork", 3, [(0, "fork", 1), (1, "fork", 2), (1, "read", 0), (2, "write", 0)],
     [0, 1, 3, 2], [3, 0, 1, 2]),
    ("through a wait for one that waited", 3,
     [(0, "fork", 1), (0, "fork", 2), (1, "write", 0), (2, "wait", 1), (0, "read", 0), (0, "wait", 2)],
     [0, 2, 1, 4, 3, 5], [0, 1, 3, 4, 5, 2]),
]

# Nothing but its fork and its wait orders what thread 1 does.
TWO = [(0, "fork", 1), (1, "write", 0), (0, "read", 0), (0, "wait", 1)]


class IsWeaving(unittest.TestCase):
    def test_the_rows_own_order(self):
        for name, many, deeds, order, wrong in WAYS:
            with self.subTest(name):
                self.assertIs(is_weaving(Row(many, deeds), list(range(len(deeds)))), True)

    def test_another_weaving(self):
        for name, many, deeds, order, wrong in WAYS:
            if order is not None:
                with self.subTest(name):
                    self.assertIs(is_weaving(Row(many, deeds), order), True)

    def test_a_deed_ahead_of_one_that_is_ahead_of_it(self):
        for name, many, deeds, order, wrong in WAYS:
            with self.subTest(name):
                self.assertEqual(sorted(wrong), list(range(len(deeds))))
                self.assertIs(is_weaving(Row(many, deeds), wrong), False)

    def test_places_left_out_or_added(self):
        row = Row(2, TWO)
        for order in ([], [0], [0, 1, 2], [0, 1, 3], [1, 2, 3], [0, 1, 2, 3, 4], [0, 1, 2, 3, 3], [0, 0, 1, 2, 3]):
            self.assertIs(is_weaving(row, order), False, order)

    def test_a_place_twice_in_the_place_of_another(self):
        row = Row(2, TWO)
        for order in ([0, 1, 2, 2], [0, 1, 1, 3], [0, 0, 2, 3], [0, 0, 0, 0], [1, 1, 2, 3]):
            self.assertIs(is_weaving(row, order), False, order)

    def test_numbers_that_are_no_places(self):
        row = Row(2, TWO)
        for number in (-1, -2, -3, -4, -5, 4, 5, 60, BIG, -BIG):
            for position in range(4):
                order = [0, 1, 2, 3]
                order[position] = number
                self.assertIs(is_weaving(row, order), False, order)
            self.assertIs(is_weaving(row, [0, 1, 2, 3, number]), False)
            self.assertIs(is_weaving(row, [number]), False)
        self.assertIs(is_weaving(row, [-4, -3, -2, -1]), False)
        self.assertIs(is_weaving(row, [1, 2, 3, 4]), False)

    def test_empty(self):
        for many in (1, 2, 6):
            row = Row(many, [])
            self.assertIs(is_weaving(row, []), True)
            for order in ([0], [-1], [1], [0, 0], [BIG]):
                self.assertIs(is_weaving(row, order), False)
        self.assertIs(is_weaving(Row(1, [(0, "read", 0)]), []), False)
        self.assertIs(is_weaving(Row(1, [(0, "read", 0)]), [0]), True)

    def test_sixty_deeds_and_three_hundred_numbers(self):
        row = Row(1, [(0, "read", 0)] * 60)
        order = list(range(60))
        self.assertIs(is_weaving(row, order), True)
        self.assertIs(is_weaving(row, order[::-1]), False)
        self.assertIs(is_weaving(row, order[:58] + [59, 58]), False)
        self.assertIs(is_weaving(row, order * 5), False)

    def test_the_list_and_the_row_stay(self):
        row = Row(2, TWO)
        for order in ([0, 2, 1, 3], [0, 1, 2, 3], [3, 2, 1, 0], [2, 9, -4, 2], []):
            handed = list(order)
            is_weaving(row, handed)
            self.assertEqual(handed, order)
            self.assertEqual(row.deeds(), TWO)

    def test_all_orders_of_short_rows(self):
        for many, rows in (
            (2, helper.all_rows(2, 4, range(2), ["read", "take", "give", "fork", "wait"])),
            (3, helper.all_rows(3, 4, range(3), ["write", "fork", "wait"])),
        ):
            for deeds in rows:
                row = Row(many, deeds)
                told = [list(order) for order in itertools.permutations(range(row.size))]
                self.assertEqual([order for order in told if is_weaving(row, order)],
                                 sorted(helper.all_weavings(deeds)), (many, deeds))

    def test_all_short_lists_of_numbers(self):
        for many, deeds in ((1, []), (2, TWO[:1]), (2, TWO[:2]), (2, TWO[:3])):
            row = Row(many, deeds)
            for size in range(5):
                for order in itertools.product(range(-2, 5), repeat=size):
                    order = list(order)
                    self.assertIs(is_weaving(row, order), helper.slow_is_weaving(deeds, order), (deeds, order))

    def test_many_long_rows(self):
        source = random.Random(7)
        for many, deeds in helper.some_rows(7, 60):
            row = Row(many, deeds)
            for order in helper.some_weavings(source, deeds, 3):
                self.assertIs(is_weaving(row, order), True, (many, deeds, order))
                for turn in range(3 if order else 0):
                    one, other = source.randrange(row.size), source.randrange(row.size)
                    order[one], order[other] = order[other], order[one]
                    wanted = helper.slow_is_weaving(deeds, order)
                    self.assertIs(is_weaving(row, order), wanted, (many, deeds, order))


class Woven(unittest.TestCase):
    def refused(self, row, order):
        with self.assertRaises(errors.NoWeaving) as taken:
            woven(row, order)
        self.assertIsInstance(taken.exception, errors.RaceError)
        self.assertIsInstance(taken.exception, ValueError)
        for name in ("NoRow", "NoRace", "NoProgram", "NoMove", "TooGreat", "NoText", "NoWords"):
            self.assertNotIsInstance(taken.exception, getattr(errors, name))

    def weaves(self, many, deeds, order):
        row = Row(many, deeds)
        told = woven(row, order)
        self.assertIs(type(told), Row)
        self.assertEqual((told.many, told.size), (many, len(deeds)))
        self.assertEqual(told.deeds(), [deeds[place] for place in order])
        old = clocks(row)
        self.assertEqual(clocks(told), [old[place] for place in order], (many, deeds, order))
        table = helper.slow_ahead(deeds)
        self.assertEqual(helper.slow_ahead(told.deeds()), [[table[one][other] for other in order] for one in order])
        self.assertEqual(row.deeds(), deeds)
        self.assertEqual((row.many, row.size), (many, len(deeds)))

    def test_a_row_by_hand(self):
        row = Row(3, TWO)
        told = woven(row, [0, 2, 1, 3])
        self.assertEqual(told.many, 3)
        self.assertEqual(told.deeds(), [(0, "fork", 1), (0, "read", 0), (1, "write", 0), (0, "wait", 1)])
        self.assertEqual(clocks(told), [[1, 0, 0], [2, 0, 0], [1, 1, 0], [3, 1, 0]])
        self.assertIs(ahead(told, 1, 2), False)
        self.assertEqual(row.deeds(), TWO)

    def test_each_way(self):
        for name, many, deeds, order, wrong in WAYS:
            with self.subTest(name):
                self.weaves(many, deeds, list(range(len(deeds))))
                if order is not None:
                    self.weaves(many, deeds, order)
                self.refused(Row(many, deeds), wrong)

    def test_empty_rows(self):
        for many in range(1, 7):
            self.weaves(many, [], [])
            self.refused(Row(many, []), [0])

    def test_what_is_no_weaving_is_refused(self):
        row = Row(2, TWO)
        for order in (
            [], [0, 1, 2], [0, 1, 2, 3, 3], [0, 1, 2, 2], [0, 1, 2, 4], [0, 1, 2, -1], [-4, -3, -2, -1],
            [0, 1, 2, 3, 4], [0, 1, 2, BIG], [1, 0, 2, 3], [0, 1, 3, 2], [3, 2, 1, 0],
        ):
            handed = list(order)
            self.refused(row, handed)
            self.assertEqual(handed, order)
            self.assertEqual(row.deeds(), TWO)

    def test_refused_where_the_deeds_would_still_be_a_row(self):
        # The two takes with their gives may change places without a fault, yet not as a weaving.
        deeds = [(0, "fork", 1), (0, "take", 7), (0, "give", 7), (1, "take", 7), (1, "give", 7)]
        Row(2, [deeds[place] for place in [0, 3, 4, 1, 2]])
        self.refused(Row(2, deeds), [0, 3, 4, 1, 2])
        # Two equal deeds of one thread are still two.
        self.refused(Row(1, [(0, "read", 0)] * 2), [1, 0])

    def test_the_list_handed_in_is_not_the_rows(self):
        row = Row(2, TWO)
        order = [0, 2, 1, 3]
        told = woven(row, order)
        self.assertEqual(order, [0, 2, 1, 3])
        wanted = told.deeds()
        order.reverse()
        order.clear()
        self.assertEqual(told.deeds(), wanted)

    def test_taken_as_race_error_and_as_value_error(self):
        with self.assertRaises(errors.RaceError):
            woven(Row(1, []), [0])
        with self.assertRaises(ValueError):
            woven(Row(1, []), [0])

    def test_all_weavings_of_short_rows(self):
        for deeds in helper.all_rows(2, 5, range(2), ["write", "take", "give", "fork", "wait"])[::3]:
            for order in helper.all_weavings(deeds):
                self.weaves(2, deeds, order)

    def test_many_long_rows(self):
        source = random.Random(8)
        for many, deeds in helper.some_rows(8, 60):
            for order in helper.some_weavings(source, deeds, 2):
                self.weaves(many, deeds, order)


if __name__ == "__main__":
    unittest.main()
