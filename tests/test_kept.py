import random
import unittest

import helper
from racewise import errors
from racewise.deeds import Row, fault
from racewise.kept import begin, deed_of, ended, moved, movers, run
from racewise.programs import Program

BIG = helper.BIG
NONE_HELD = (None, None, None)
ZEROS = (0, 0, 0)
SET = ("set", 0, ("own", 0), "+", ("number", 0))
# Lines that may always be done.
FREE_LINES = [
    ("read", 0, 0), ("write", 0, ("number", 5)), SET, ("skip", ("own", 0), "==", ("own", 1), 1),
    ("skip", ("own", 0), "<", ("own", 1), 1),
]


def number(value):
    return ("number", value)


def own(value):
    return ("own", value)


class Questions(unittest.TestCase):
    def no_move(self, program, state, thread):
        try:
            moved(program, state, thread)
        except errors.NoMove as e:
            self.is_no_other(e)
        else:
            self.fail(f"moved: {state!r} {thread!r}")

    def no_run(self, program, schedule):
        handed = list(schedule)
        try:
            run(program, handed)
        except errors.NoMove as e:
            self.is_no_other(e)
        else:
            self.fail(f"ran: {schedule!r}")
        self.assertEqual(handed, schedule)

    def is_no_other(self, e):
        self.assertIsInstance(e, errors.RaceError)
        self.assertIsInstance(e, ValueError)
        for name in ("NoRow", "NoWeaving", "NoRace", "NoProgram", "TooGreat", "NoText", "NoWords"):
            self.assertNotIsInstance(e, getattr(errors, name))

    def may(self, program, state, threads):
        """Just these threads may move, and each other one is refused."""
        told = movers(program, state)
        self.assertEqual(told, threads)
        self.assertIs(type(told), list)
        for thread in range(-4, 5):
            if thread in threads:
                moved(program, state, thread)
            else:
                self.no_move(program, state, thread)


class Begin(Questions):
    def test_first_states(self):
        self.assertEqual(begin(Program([7], [[]])), ((0,), (ZEROS,), (7,), NONE_HELD, (True,)))
        self.assertEqual(
            begin(Program([3, -BIG, 0, BIG], [[SET], [], [("take", 0), ("take", 1)]])),
            ((0, 0, 0), (ZEROS, ZEROS, ZEROS), (3, -BIG, 0, BIG), NONE_HELD, (True, False, False)),
        )
        self.assertEqual(
            begin(Program([1, 2], [[], [SET]])), ((0, 0), (ZEROS, ZEROS), (1, 2), NONE_HELD, (True, False)),
        )

    def test_kinds(self):
        state = begin(Program([1, 2], [[], [SET]]))
        self.assertIs(type(state), tuple)
        self.assertEqual([type(part) for part in state], [tuple] * 5)
        self.assertEqual([type(part) for part in state[1]], [tuple] * 2)
        self.assertEqual([type(part) for part in state[0] + state[1][0] + state[2]], [int] * 7)
        self.assertEqual([type(part) for part in state[4]], [bool] * 2)


class Ended(Questions):
    def test_at_first(self):
        for size in range(9):
            program = Program([0], [[SET] * size, [SET] * (8 - size), []])
            state = begin(program)
            self.assertIs(ended(program, state, 0), size == 0)
            # Asleep or not, a thread that has lines has not ended, and one without any has.
            self.assertIs(ended(program, state, 1), size == 8)
            self.assertIs(ended(program, state, 2), True)

    def test_behind_the_last_line(self):
        program = Program([0], [[SET, SET, SET]])
        for count, told in ((0, False), (1, False), (2, False), (3, True)):
            self.assertIs(ended(program, run(program, [0] * count)[0], 0), told)

    def test_by_a_skip(self):
        for size in range(1, 9):
            for count in range(9):
                skip = ("skip", number(0), "==", number(0), count)
                program = Program([0], [[skip] + [SET] * (size - 1)])
                state = moved(program, begin(program), 0)
                self.assertEqual(state[0], (1 + count,))
                self.assertIs(ended(program, state, 0), 1 + count >= size)
                self.may(program, state, [] if 1 + count >= size else [0])

    def test_each_thread_by_its_own_lines(self):
        program = Program([0], [[("fork", 1), SET, SET], [SET], [SET]])
        state = run(program, [0, 1])[0]
        self.assertEqual([ended(program, state, thread) for thread in range(3)], [False, True, False])
        state = run(program, [0, 0, 0])[0]
        self.assertEqual([ended(program, state, thread) for thread in range(3)], [True, False, False])


class Movers(Questions):
    def test_asleep_or_ended(self):
        for line in FREE_LINES + [("take", 0)]:
            program = Program([0], [[("fork", 2), line], [line], [line]])
            self.may(program, begin(program), [0])
            self.may(program, run(program, [0])[0], [0, 2])
            self.may(program, run(program, [0, 0])[0], [] if line[0] == "take" else [2])
            self.may(program, run(program, [0, 2])[0], [] if line[0] == "take" else [0])
        self.may(Program([0], [[]]), begin(Program([0], [[]])), [])
        program = Program([0], [[], [SET]])
        self.may(program, begin(program), [])

    def test_awake_and_ended_at_once(self):
        program = Program([0], [[("fork", 1)], []])
        self.may(program, run(program, [0])[0], [])

    def test_lines_that_always_may(self):
        for line in FREE_LINES:
            for many in range(1, 4):
                # Whatever locks are held.
                program = Program([0], [[("take", 0), line]] + [[] for thread in range(1, many)])
                self.may(program, begin(program), [0])
                self.may(program, run(program, [0])[0], [0])
                self.may(program, run(program, [0, 0])[0], [])

    def test_take(self):
        for lock in range(3):
            program = Program([0], [[("take", lock), ("fork", 1), ("give", lock)], [("take", lock), ("give", lock)]])
            self.may(program, begin(program), [0])
            held = run(program, [0, 0])[0]
            self.may(program, held, [0])
            given = moved(program, held, 0)
            self.may(program, given, [1])
            self.may(program, moved(program, given, 1), [1])

    def test_take_of_another_lock(self):
        for lock in range(3):
            for other in range(3):
                program = Program([0], [[("take", lock), ("fork", 1)], [("take", other)]])
                self.may(program, run(program, [0, 0])[0], [] if lock == other else [1])

    def test_take_of_what_it_holds_itself(self):
        program = Program([0], [[("take", 1), ("take", 1)]])
        self.may(program, run(program, [0])[0], [])
        program = Program([0], [[("fork", 1)], [("take", 2), ("take", 2)]])
        self.may(program, run(program, [0, 1])[0], [])

    def test_give(self):
        for lock in range(3):
            for other in range(3):
                program = Program([0], [[("take", lock), ("give", other)]])
                self.may(program, run(program, [0])[0], [0] if lock == other else [])
        program = Program([0], [[("give", 0)]])
        self.may(program, begin(program), [])
        program = Program([0], [[("take", 0), ("give", 0), ("give", 0)]])
        self.may(program, run(program, [0, 0])[0], [])

    def test_give_of_what_another_holds(self):
        # Held by thread 0, and by a greater one.
        program = Program([0], [[("take", 0), ("fork", 1), SET], [("give", 0)]])
        self.may(program, run(program, [0, 0])[0], [0])
        program = Program([0], [[("fork", 1), ("give", 0)], [("take", 0)]])
        self.may(program, run(program, [0])[0], [1])
        self.may(program, run(program, [0, 1])[0], [])

    def test_fork(self):
        for other in range(3):
            for many in range(other + 1, 4):
                program = Program([0], [[("fork", other)]] + [[SET] for thread in range(1, many)])
                self.may(program, begin(program), [] if other == 0 else [0])
        program = Program([0], [[("fork", 1), ("fork", 1)], []])
        self.may(program, run(program, [0])[0], [])

    def test_fork_by_another_thread(self):
        for other in range(3):
            program = Program([0], [[("fork", 1)], [("fork", other)], [SET]])
            self.may(program, run(program, [0])[0], [1] if other == 2 else [])
        # Once by either of two.
        program = Program([0], [[("fork", 1), ("fork", 2)], [("fork", 2)], [SET]])
        state = run(program, [0])[0]
        self.may(program, state, [0, 1])
        self.may(program, moved(program, state, 0), [2])
        self.may(program, moved(program, state, 1), [2])

    def test_wait(self):
        program = Program([0], [[("fork", 1), ("wait", 1)], [SET, SET]])
        self.may(program, run(program, [0])[0], [1])
        self.may(program, run(program, [0, 1])[0], [1])
        self.may(program, run(program, [0, 1, 1])[0], [0])
        self.may(program, run(program, [0, 1, 1, 0])[0], [])

    def test_wait_for_one_that_is_asleep(self):
        for code in ([], [SET]):
            program = Program([0], [[("wait", 1)], code])
            self.may(program, begin(program), [])
        program = Program([0], [[("fork", 1)], [("wait", 2)], []])
        self.may(program, run(program, [0])[0], [])

    def test_wait_for_one_without_lines(self):
        program = Program([0], [[("fork", 1), ("wait", 1)], []])
        self.may(program, run(program, [0])[0], [0])

    def test_wait_for_one_that_has_skipped_beyond(self):
        program = Program([0], [[("fork", 1), ("wait", 1)], [("skip", number(0), "<", number(1), 8), SET]])
        self.may(program, run(program, [0])[0], [1])
        self.may(program, run(program, [0, 1])[0], [0])

    def test_wait_for_itself(self):
        program = Program([0], [[("wait", 0)]])
        self.may(program, begin(program), [])
        program = Program([0], [[("fork", 1)], [("wait", 1)]])
        self.may(program, run(program, [0])[0], [])

    def test_wait_for_thread_0(self):
        program = Program([0], [[("fork", 1), SET], [("wait", 0)]])
        self.may(program, run(program, [0])[0], [0])
        self.may(program, run(program, [0, 0])[0], [1])

    def test_wait_more_than_once(self):
        program = Program([0], [[("fork", 1), ("fork", 2), ("wait", 1), ("wait", 1)], [], [("wait", 1)]])
        state, deeds = run(program, [0, 0, 0, 2, 0])
        self.assertEqual(deeds[2:], [(0, "wait", 1), (2, "wait", 1), (0, "wait", 1)])
        self.may(program, state, [])

    def test_wait_for_one_that_holds_a_lock(self):
        program = Program([0], [[("fork", 1), ("wait", 1), ("take", 0)], [("take", 0)]])
        self.may(program, run(program, [0, 1])[0], [0])
        self.may(program, run(program, [0, 1, 0])[0], [])

    def test_rising(self):
        program = Program([0], [[("fork", 2), ("fork", 1), SET], [SET], [SET]])
        self.may(program, run(program, [0, 0])[0], [0, 1, 2])

    def test_what_is_no_thread(self):
        for many in range(1, 4):
            program = Program([0], [[SET] for thread in range(many)])
            state = begin(program)
            for thread in (-1, -2, -3, -4, many, many + 1, BIG, -BIG):
                self.no_move(program, state, thread)
                self.no_run(program, [thread])

    def test_told_lists_are_the_askers_own(self):
        program = Program([0], [[("fork", 1), SET], [SET]])
        state = run(program, [0])[0]
        told = movers(program, state)
        told.clear()
        told.append(2)
        self.assertEqual(movers(program, state), [0, 1])


class Moved(Questions):
    # Thread 1 moves, and thread 0 has gone ahead of it: own values 4, 5, 6 and a lock of its own.
    AHEAD = [
        ("fork", 1), ("take", 2), ("set", 0, number(4), "+", number(0)), ("set", 1, number(5), "+", number(0)),
        ("set", 2, number(6), "+", number(0)),
    ]
    # Own values of thread 1: 10, -3, 10.
    BEFORE = [
        ("set", 0, number(10), "+", number(0)), ("set", 1, number(-3), "+", number(0)),
        ("set", 2, number(10), "+", number(0)),
    ]

    def changes(self, line, changed):
        """What thread 1 changes by this line; all that is not named stays."""
        program = Program([20, 21, 22, 23], [self.AHEAD, self.BEFORE + [line], [SET]])
        state = run(program, [0, 0, 0, 0, 0, 1, 1, 1])[0]
        parts = {
            "lines": (5, 3, 0), "owns": ((4, 5, 6), (10, -3, 10), ZEROS), "values": (20, 21, 22, 23),
            "holders": (None, None, 0), "awake": (True, True, False),
        }
        self.assertEqual(state, tuple(parts.values()))
        parts["lines"] = (5, 4, 0)
        parts.update(changed)
        told = moved(program, state, 1)
        self.assertEqual(told, tuple(parts.values()), line)
        self.assertEqual([type(part) for part in told], [tuple] * 5)
        self.assertEqual(state[0], (5, 3, 0))
        self.assertEqual(moved(program, state, 1), told)

    def test_read(self):
        for name in range(4):
            self.changes(("read", 0, name), {"owns": ((4, 5, 6), (20 + name, -3, 10), ZEROS)})
            self.changes(("read", 1, name), {"owns": ((4, 5, 6), (10, 20 + name, 10), ZEROS)})
            self.changes(("read", 2, name), {"owns": ((4, 5, 6), (10, -3, 20 + name), ZEROS)})

    def test_write(self):
        for value, told in ((own(0), 10), (own(1), -3), (number(1), 1), (number(-BIG), -BIG), (number(0), 0)):
            for name in range(4):
                values = [20, 21, 22, 23]
                values[name] = told
                self.changes(("write", name, value), {"values": tuple(values)})

    def test_set(self):
        for target in range(3):
            for one, sign, other, told in (
                (own(0), "+", own(1), 7), (own(0), "-", own(1), 13), (own(1), "-", own(0), -13),
                (number(2), "-", number(5), -3), (number(2), "+", number(5), 7), (own(1), "+", number(2), -1),
                (number(1), "-", own(2), -9), (number(BIG), "+", number(BIG), 2 * BIG), (own(0), "-", own(2), 0),
                (number(-BIG), "-", number(BIG), -2 * BIG), (own(1), "+", own(1), -6),
            ):
                values = [10, -3, 10]
                values[target] = told
                self.changes(("set", target, one, sign, other), {"owns": ((4, 5, 6), tuple(values), ZEROS)})

    def test_skip(self):
        for one, test, other, so in (
            (own(0), "==", own(2), True), (own(0), "==", own(1), False), (own(0), "==", number(10), True),
            (number(-3), "==", own(1), True), (number(BIG), "==", number(BIG), True),
            (number(BIG), "==", number(BIG - 1), False), (number(1), "==", number(-1), False),
            (own(1), "<", own(0), True), (own(0), "<", own(1), False), (own(0), "<", own(2), False),
            (own(0), "<", number(11), True), (own(0), "<", number(10), False), (number(-4), "<", own(1), True),
            (number(BIG - 1), "<", number(BIG), True), (number(BIG), "<", number(-BIG), False),
            # An own value, not a number, of this name's number.
            (own(1), "==", number(1), False), (own(0), "<", number(1), False),
        ):
            for count in range(9):
                self.changes(("skip", one, test, other, count), {"lines": (5, 4 + (count if so else 0), 0)})

    def test_take_and_give(self):
        self.changes(("take", 0), {"holders": (1, None, 0)})
        self.changes(("take", 1), {"holders": (None, 1, 0)})
        program = Program([0], [[("take", 0), ("take", 1), ("take", 2), ("give", 1), ("give", 0), ("give", 2)]])
        for count, holders in enumerate((
            NONE_HELD, (0, None, None), (0, 0, None), (0, 0, 0), (0, None, 0), (None, None, 0), NONE_HELD,
        )):
            state = run(program, [0] * count)[0]
            self.assertEqual(state, ((count,), (ZEROS,), (0,), holders, (True,)))

    def test_fork(self):
        self.changes(("fork", 2), {"awake": (True, True, True)})

    def test_wait(self):
        # Thread 0 has ended, still holding a lock.
        self.changes(("wait", 0), {})

    def test_own_names_are_each_threads_own(self):
        program = Program([9], [[("fork", 1), ("read", 0, 0)], [("write", 0, own(0)), ("read", 0, 0)]])
        state = run(program, [0, 0, 1, 1])[0]
        self.assertEqual(state, ((2, 2), ((9, 0, 0), ZEROS), (0,), NONE_HELD, (True, True)))

    def test_skipped_lines_are_not_done(self):
        skip = ("skip", number(0), "==", number(0), 2)
        write = ("write", 0, number(1))
        program = Program([0, 0], [[skip, write, write, ("write", 1, number(2))]])
        state, deeds = run(program, [0, 0])
        self.assertEqual((state[0], state[2], deeds), ((4,), (0, 2), [(0, "write", 1)]))
        self.may(program, state, [])


class Runs(Questions):
    def test_deeds_of_lines(self):
        # Names and locks are numbered unlike own names, so that no two parts of a line are alike.
        for line, thing in (
            (("read", 0, 2), 2), (("read", 2, 1), 1), (("write", 3, own(1)), 3), (("write", 0, number(9)), 0),
            (("take", 1), 1), (("take", 2), 2), (("fork", 2), 2),
        ):
            program = Program([0] * 4, [[("fork", 1), line], [line], []])
            state = run(program, [0])[0]
            for thread in (0, 1):
                told = deed_of(program, state, thread)
                self.assertEqual(told, (thread, line[0], thing))
                self.assertIs(type(told), tuple)

    def test_deeds_of_give_and_wait(self):
        program = Program([0], [[("fork", 2), ("take", 1), ("give", 1), ("wait", 2)], [], []])
        state = run(program, [0, 0])[0]
        self.assertEqual(deed_of(program, state, 0), (0, "give", 1))
        self.assertEqual(deed_of(program, run(program, [0, 0, 0])[0], 0), (0, "wait", 2))

    def test_no_deeds_of_set_and_skip(self):
        for line in (
            SET, ("set", 2, own(1), "-", number(3)), ("skip", number(0), "==", number(0), 8),
            ("skip", own(0), "<", own(1), 0),
        ):
            program = Program([0], [[line]])
            self.assertIsNone(deed_of(program, begin(program), 0))
            self.assertEqual(run(program, [0])[1], [])

    def test_empty_schedules(self):
        for values, codes in helper.some_programs(40, 30):
            program = Program(values, codes)
            self.assertEqual(run(program, []), (begin(program), []))

    def test_by_hand(self):
        program = Program([5, 6], [
            [("fork", 1), ("take", 2), ("read", 1, 1), ("set", 1, own(1), "+", number(1)), ("write", 0, own(1)),
             ("give", 2), ("wait", 1)],
            [("skip", own(0), "<", number(1), 1), ("write", 1, number(50)), ("read", 2, 0)],
        ])
        told = run(program, [0, 1, 0, 0, 1, 0, 0, 0, 0])
        self.assertIs(type(told), tuple)
        self.assertIs(type(told[1]), list)
        self.assertEqual(told, (
            ((7, 3), ((0, 7, 0), (0, 0, 5)), (7, 6), NONE_HELD, (True, True)),
            [(0, "fork", 1), (0, "take", 2), (0, "read", 1), (1, "read", 0), (0, "write", 0), (0, "give", 2),
             (0, "wait", 1)],
        ))

    def test_refused_schedules(self):
        program = Program([0], [[("fork", 1), ("take", 0), ("wait", 1), ("give", 1)], [("take", 0), ("give", 0)]])
        for schedule in (
            [1], [0, 0, 1], [0, 0, 0], [0, 1, 0], [0, 1, 1, 0, 0, 0], [0, 1, 1, 1], [2], [-1], [0, 2], [0, 1, -1],
            [BIG], [0, -BIG], [0, 1, 1, 0, 0, 7], [1, 0], [0, 1, 0, 1],
        ):
            self.no_run(program, schedule)
        self.assertEqual(run(program, [0, 1, 1, 0, 0])[0][0], (3, 2))
        self.no_run(Program([0], [[SET]]), [0] * 300)
        self.no_run(Program([0], [[]]), [0])

    def test_what_is_handed_in_and_told(self):
        source = random.Random(41)
        for values, codes in helper.some_programs(41, 60):
            program = Program(list(values), [list(code) for code in codes])
            schedule = helper.some_schedule(source, values, codes)
            handed = list(schedule)
            wanted = repr(run(program, handed))
            self.assertEqual(handed, schedule)
            told = run(program, handed)
            handed.clear()
            self.assertEqual(repr(told), wanted)
            told[1].append(None)
            told[1][0] = 7
            self.assertEqual(repr(run(program, schedule)), wanted)
            self.assertEqual(program.first_values(), values)
            self.assertEqual([program.code(thread) for thread in range(len(codes))], codes)


class Agree(Questions):
    def agrees(self, values, codes, schedule):
        """Each step of the schedule, and what each thread may in between, is as told slowly."""
        program = Program(values, codes)
        slow = helper.SlowRun(values, codes)
        threads = range(len(codes))
        state = begin(program)
        deeds = []
        words = []
        for thread in schedule + [None]:
            self.assertEqual(repr(state), repr(slow.state()), (values, codes, schedule))
            for other in threads:
                self.assertIs(ended(program, state, other), slow.ended(other), (values, codes, schedule))
            self.may(program, state, [other for other in threads if slow.may(other)])
            if thread is not None:
                words.append(codes[thread][slow.lines[thread]][0])
                told = deed_of(program, state, thread)
                self.assertEqual(told, slow.move(thread), (values, codes, schedule))
                deeds += [] if told is None else [told]
                state = moved(program, state, thread)
        self.assertEqual(run(program, schedule), (state, deeds), (values, codes, schedule))
        return deeds, words

    def makes_a_row(self, many, deeds):
        self.assertIsNone(fault(many, deeds))
        self.assertIsNone(helper.slow_fault(many, deeds))
        self.assertLessEqual(len(deeds), 24)
        row = Row(many, deeds)
        self.assertEqual((row.many, row.deeds()), (many, deeds))

    def test_many_programs(self):
        source = random.Random(42)
        words = []
        longest = 0
        for values, codes in helper.some_programs(42, 700):
            for turn in range(3):
                schedule = helper.some_schedule(source, values, codes)
                deeds, done = self.agrees(values, codes, schedule)
                self.makes_a_row(len(codes), deeds)
                words += done
                longest = max(longest, len(deeds))
        for word in ("read", "write", "set", "skip", "take", "give", "fork", "wait"):
            self.assertGreater(words.count(word), 50, word)
        self.assertGreater(longest, 12)

    def test_the_longest_rows(self):
        codes = [
            [("fork", 1), ("fork", 2)] + [("read", 0, 0)] * 6, [("take", 0), ("give", 0)] * 4,
            [("take", 1)] + [("wait", 1)] * 7,
        ]
        schedule = [0] * 8 + [1] * 8 + [2] * 8
        deeds = self.agrees([0], codes, schedule)[0]
        self.assertEqual(len(deeds), 24)
        self.makes_a_row(3, deeds)

    def test_all_pairs_of_lines(self):
        # Each line behind each other one, done as far as may be by thread 1, which thread 0 forks.
        lines = FREE_LINES + [(word, thing) for word in ("take", "give", "fork", "wait") for thing in range(3)]
        for one in lines:
            for other in lines:
                codes = [[("fork", 1), ("take", 2)], [one, other], [SET]]
                for first in ([0], [0, 0]):
                    slow = helper.SlowRun([0], codes)
                    schedule = list(first)
                    for thread in first:
                        slow.move(thread)
                    while slow.may(1):
                        slow.move(1)
                        schedule.append(1)
                    self.makes_a_row(3, self.agrees([0], codes, schedule)[0])


if __name__ == "__main__":
    unittest.main()
