import itertools
import random
import unittest

import helper
from racewise import errors
from racewise.deeds import Row, fault

BIG = helper.BIG
FORK1 = (0, "fork", 1)

# By word a number of threads and deeds of which the last one alone has a fault, and that one alone
# (but that what is no thread is always asleep, too).
LONE_FAULTS = [
    ("thread", 1, [(0, "read", 0), (1, "read", 0)]),
    ("thread", 6, [(6, "read", 0)]),
    ("thread", 2, [(-1, "write", 0)]),
    ("word", 1, [(0, "reads", 0)]),
    ("word", 1, [(0, "", 0)]),
    ("word", 1, [(0, "Read", 0)]),
    ("word", 1, [(0, "read ", 0)]),
    ("thing", 1, [(0, "read", -1)]),
    ("thing", 1, [(0, "write", -BIG)]),
    ("thing", 1, [(0, "take", -1)]),
    ("thing", 2, [(0, "fork", 2)]),
    ("thing", 2, [(0, "fork", -1)]),
    ("asleep", 2, [(0, "read", 0), (1, "read", 0)]),
    ("asleep", 3, [FORK1, (2, "write", 0)]),
    ("gone", 2, [FORK1, (0, "wait", 1), (1, "read", 0)]),
    ("gone", 2, [FORK1, (1, "wait", 0), (0, "read", 0)]),
    ("gone", 3, [FORK1, (0, "fork", 2), (2, "wait", 1), (0, "write", 0), (1, "take", 0)]),
    ("held", 1, [(0, "take", 0), (0, "take", 0)]),
    ("held", 2, [FORK1, (0, "take", 3), (1, "take", 3)]),
    ("held", 2, [FORK1, (1, "take", 3), (0, "wait", 1), (0, "take", 3)]),
    ("held", 1, [(0, "take", BIG), (0, "take", 10 ** 60 - 1)]),
    ("held", 1, [(0, "take", 0), (0, "give", 0), (0, "take", 0), (0, "take", 0)]),
    ("loose", 1, [(0, "give", 0)]),
    ("loose", 2, [FORK1, (0, "take", 0), (1, "give", 0)]),
    ("loose", 1, [(0, "take", 0), (0, "give", 0), (0, "give", 0)]),
    ("loose", 1, [(0, "take", 0), (0, "give", 1)]),
    ("loose", 1, [(0, "take", BIG), (0, "give", BIG - 1)]),
    ("twice", 1, [(0, "fork", 0)]),
    ("twice", 2, [FORK1, (1, "fork", 0)]),
    ("twice", 2, [FORK1, FORK1]),
    ("twice", 2, [FORK1, (1, "fork", 1)]),
    ("twice", 3, [FORK1, (0, "fork", 2), (2, "fork", 1)]),
    ("twice", 2, [FORK1, (0, "wait", 1), FORK1]),
    ("unborn", 2, [(0, "wait", 1)]),
    ("unborn", 3, [FORK1, (1, "wait", 2)]),
    ("self", 1, [(0, "wait", 0)]),
    ("self", 2, [FORK1, (1, "wait", 1)]),
]

# Deeds of which the last one has all of the faults that are named, the least one first.
SEVERAL_FAULTS = [
    (["thread", "word", "asleep"], 1, [(1, "x", 0)]),
    (["thread", "word", "thing", "asleep"], 1, [(-1, "x", -1)]),
    (["thread", "thing", "asleep"], 2, [(2, "fork", 2)]),
    (["thread", "asleep", "loose"], 2, [(2, "give", 0)]),
    (["thread", "asleep", "held"], 2, [(0, "take", 0), (2, "take", 0)]),
    (["thread", "asleep", "twice"], 2, [(2, "fork", 0)]),
    (["thread", "asleep", "unborn"], 2, [(2, "wait", 1)]),
    (["word", "thing"], 1, [(0, "x", -1)]),
    (["word", "asleep"], 2, [(1, "x", 0)]),
    (["word", "gone"], 2, [FORK1, (0, "wait", 1), (1, "x", 0)]),
    (["thing", "asleep"], 2, [(1, "read", -1)]),
    (["thing", "asleep", "loose"], 2, [(1, "give", -1)]),
    (["thing", "asleep", "unborn"], 2, [(1, "wait", 2)]),
    (["thing", "gone"], 2, [FORK1, (0, "wait", 1), (1, "write", -1)]),
    (["thing", "loose"], 1, [(0, "give", -1)]),
    (["thing", "unborn"], 1, [(0, "wait", 1)]),
    (["thing", "unborn"], 1, [(0, "wait", -1)]),
    (["asleep", "held"], 2, [(0, "take", 0), (1, "take", 0)]),
    (["asleep", "loose"], 2, [(1, "give", 0)]),
    (["asleep", "twice"], 2, [(1, "fork", 0)]),
    (["asleep", "unborn"], 3, [(1, "wait", 2)]),
    (["asleep", "unborn", "self"], 2, [(1, "wait", 1)]),
    (["gone", "held"], 2, [FORK1, (1, "take", 0), (0, "wait", 1), (1, "take", 0)]),
    (["gone", "loose"], 2, [FORK1, (0, "wait", 1), (1, "give", 0)]),
    (["gone", "twice"], 2, [FORK1, (0, "wait", 1), (1, "fork", 0)]),
    (["gone", "unborn"], 3, [FORK1, (0, "wait", 1), (1, "wait", 2)]),
    (["gone", "self"], 2, [FORK1, (0, "wait", 1), (1, "wait", 1)]),
    (["gone", "self"], 2, [FORK1, (1, "wait", 0), (0, "wait", 0)]),
]

FAULTLESS = [
    (1, []),
    (6, []),
    (1, [(0, "read", 0), (0, "write", BIG), (0, "take", BIG), (0, "take", BIG - 1), (0, "give", BIG)]),
    (1, [(0, "take", 0), (0, "give", 0), (0, "take", 0)]),
    (2, [FORK1, (1, "read", 2), (1, "take", 6), (1, "write", 60)]),
    (2, [FORK1, (0, "take", 1), (1, "take", 0)]),
    (2, [FORK1, (0, "take", 0), (0, "give", 0), (1, "take", 0), (1, "give", 0)]),
    (2, [FORK1, (0, "wait", 1), (0, "wait", 1)]),
    (2, [FORK1, (1, "wait", 0), (1, "wait", 0), (1, "read", 0)]),
    (3, [FORK1, (1, "fork", 2), (2, "wait", 0), (1, "wait", 0), (1, "wait", 2)]),
    (3, [FORK1, (0, "wait", 1), (0, "fork", 2), (2, "wait", 1), (2, "read", 0)]),
    (2, [FORK1, (1, "take", 0), (0, "wait", 1), (0, "take", 1)]),
    (6, [(k, "fork", k + 1) for k in range(5)] + [(5, "read", 0)]),
]


class Fault(unittest.TestCase):
    def test_lone_faults(self):
        for word, many, deeds in LONE_FAULTS:
            with self.subTest(word=word, deeds=deeds):
                wanted = ["thread", "asleep"] if word == "thread" else [word]
                self.assertEqual(helper.slow_faults(many, deeds[:-1], deeds[-1]), wanted)
                self.assertEqual(fault(many, deeds), (len(deeds) - 1, word))
                self.assertIsNone(fault(many, deeds[:-1]))

    def test_the_order_of_the_faults(self):
        for words, many, deeds in SEVERAL_FAULTS:
            with self.subTest(words=words, deeds=deeds):
                self.assertEqual(helper.slow_faults(many, deeds[:-1], deeds[-1]), words)
                self.assertEqual(fault(many, deeds), (len(deeds) - 1, words[0]))

    def test_no_fault(self):
        for many, deeds in FAULTLESS:
            with self.subTest(many=many, deeds=deeds):
                self.assertIsNone(fault(many, deeds))

    def test_the_first_deed_with_a_fault_tells(self):
        for (word, many, deeds), (_, _, more) in itertools.product(LONE_FAULTS, LONE_FAULTS):
            self.assertEqual(fault(many, deeds + more), (len(deeds) - 1, word))

    def test_a_greater_fault_ahead_of_a_lesser_one(self):
        deeds = [(0, "wait", 0), (0, "fork", 0), (0, "give", 0), (0, "read", -1), (0, "x", 0), (9, "read", 0)]
        for start in range(len(deeds)):
            word = ["self", "twice", "loose", "thing", "word", "thread"][start]
            self.assertEqual(fault(1, [(0, "read", 0)] + deeds[start:]), (1, word))

    def test_bounds_of_threads(self):
        for many in range(1, 7):
            born = [(0, "fork", k) for k in range(1, many)]
            for thread in range(many):
                self.assertIsNone(fault(many, born + [(thread, "read", 0)]))
            for thread in (-BIG, -1, many, many + 1, BIG):
                self.assertEqual(fault(many, born + [(thread, "read", 0)]), (many - 1, "thread"))

    def test_bounds_of_things(self):
        for many in range(1, 7):
            for word in ("read", "write", "take"):
                for thing in (0, many - 1, many, 6, 60, BIG):
                    self.assertIsNone(fault(many, [(0, word, thing)]))
                self.assertEqual(fault(many, [(0, word, -1)]), (0, "thing"))
            self.assertIsNone(fault(many, [(0, "take", many), (0, "give", many)]))
            for word in ("fork", "wait"):
                for thing in (-BIG, -1, many, many + 1, BIG):
                    self.assertEqual(fault(many, [(0, word, thing)]), (0, "thing"))
            if many > 1:
                self.assertIsNone(fault(many, [(0, "fork", many - 1), (0, "wait", many - 1)]))

    def test_the_kind_of_the_answer(self):
        told = fault(1, [(0, "read", 0), (0, "give", 0)])
        self.assertIs(type(told), tuple)
        self.assertIs(type(told[0]), int)
        self.assertIs(type(told[1]), str)

    def test_nothing_is_refused_beyond_the_bounds(self):
        self.assertIsNone(fault(1, [(0, "read", 0)] * 70))
        self.assertEqual(fault(1, [(0, "read", 0)] * 70 + [(0, "give", 0)]), (70, "loose"))
        self.assertIsNone(fault(7, [(0, "fork", 6), (6, "read", 0)]))
        self.assertIsNone(fault(0, []))
        self.assertEqual(fault(0, [(0, "read", 0)]), (0, "thread"))

    def test_the_deeds_handed_in_stay(self):
        for _, many, deeds in LONE_FAULTS:
            handed = list(deeds)
            fault(many, handed)
            self.assertEqual(handed, deeds)

    def test_all_short_lists(self):
        choice = helper.all_deeds(range(-1, 3), range(-1, 3), helper.WORDS + ["x"])
        for many in (1, 2, 3):
            for past in helper.all_rows(many, 2, range(3)):
                for deed in choice:
                    deeds = past + [deed]
                    self.assertEqual(fault(many, deeds), helper.slow_fault(many, deeds), (many, deeds))

    def test_many_long_lists(self):
        source = random.Random(4)
        for many, deeds in helper.some_rows(4, 120):
            self.assertIsNone(fault(many, deeds))
            for turn in range(20):
                deed = (source.randint(-1, many), source.choice(helper.WORDS + ["x"]), source.randint(-1, many))
                place = source.randint(0, len(deeds))
                more = deeds[:place] + [deed] + deeds[place:]
                self.assertEqual(fault(many, more), helper.slow_fault(many, more), (many, more))


class MakingRows(unittest.TestCase):
    def refused(self, many, deeds):
        with self.assertRaises(errors.NoRow) as taken:
            Row(many, deeds)
        self.assertIsInstance(taken.exception, errors.RaceError)
        self.assertIsInstance(taken.exception, ValueError)
        for name in ("NoWeaving", "NoRace", "NoProgram", "NoMove", "TooGreat", "NoText", "NoWords"):
            self.assertNotIsInstance(taken.exception, getattr(errors, name))

    def test_values_and_methods(self):
        for many, deeds in FAULTLESS:
            row = Row(many, deeds)
            self.assertEqual(row.many, many)
            self.assertEqual(row.size, len(deeds))
            self.assertEqual(row.deeds(), deeds)
            self.assertIs(type(row.deeds()), list)
            for place, deed in enumerate(deeds):
                self.assertEqual(row.deed(place), deed)
                self.assertIs(type(row.deed(place)), tuple)

    def test_how_many_threads(self):
        for many in range(1, 7):
            self.assertEqual(Row(many, [(0, "read", 0)]).many, many)
        for many in (0, 7, -1, 8, BIG, -BIG):
            self.refused(many, [])
            self.refused(many, [(0, "read", 0)])

    def test_how_many_deeds(self):
        for size in (0, 1, 59, 60):
            row = Row(1, [(0, "read", place) for place in range(size)])
            self.assertEqual(row.size, size)
            self.assertEqual([deed[2] for deed in row.deeds()], list(range(size)))
        for size in (61, 62, 300):
            self.refused(1, [(0, "read", 0)] * size)

    def test_each_fault_is_refused(self):
        for _, many, deeds in LONE_FAULTS:
            self.refused(many, deeds)
            self.refused(many, deeds + [(0, "read", 0)])
        for _, many, deeds in SEVERAL_FAULTS:
            self.refused(many, deeds)

    def test_taken_as_race_error_and_as_value_error(self):
        with self.assertRaises(errors.RaceError):
            Row(0, [])
        with self.assertRaises(ValueError):
            Row(1, [(0, "give", 0)])

    def test_a_row_never_changes(self):
        handed = [FORK1, (1, "write", 0), (0, "read", 0)]
        kept = list(handed)
        row = Row(2, handed)
        self.assertEqual(handed, kept)
        handed[1] = (1, "give", 7)
        handed.append((0, "give", 7))
        self.assertEqual(row.deeds(), kept)
        handed.clear()
        told = row.deeds()
        told[0] = None
        told.pop()
        self.assertEqual(row.deeds(), kept)
        self.assertEqual([row.deed(place) for place in range(3)], kept)
        self.assertEqual((row.many, row.size), (2, 3))
        self.assertIsNot(row.deeds(), row.deeds())


if __name__ == "__main__":
    unittest.main()
