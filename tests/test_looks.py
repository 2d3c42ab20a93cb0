import random
import unittest

import helper
from racewise import errors
from racewise.deeds import Row
from racewise.kept import begin, ended, moved, movers, run
from racewise.looks import clash, clash_in, ends, is_stuck, reasons, states
from racewise.programs import Program
from racewise.races import races

BIG = helper.BIG
NONE_HELD = (None, None, None)
ZEROS = (0, 0, 0)
SET = helper.SET
READ = ("read", 0, 0)
WRITE = ("write", 0, ("number", 1))
OTHERS = ("NoRow", "NoWeaving", "NoRace", "NoProgram", "NoMove", "NoText", "NoWords")


def number(value):
    return ("number", value)


def programs():
    """Programs of all sorts, as first values and codes; a few are too great."""
    return (
        helper.some_programs(60, 150) + helper.some_programs(61, 100, 4) + helper.some_busy_programs(62, 150, 5)
        + helper.some_busy_programs(62, 20, 8) + helper.some_guarded_programs(63, 40, 7)
    )


class Questions(unittest.TestCase):
    def too_great(self, ask, program):
        try:
            ask(program)
        except errors.TooGreat as e:
            self.assertIsInstance(e, errors.RaceError)
            self.assertIsInstance(e, ValueError)
            for name in OTHERS:
                self.assertNotIsInstance(e, getattr(errors, name))
        else:
            self.fail("not too great")


class States(Questions):
    def test_by_hand(self):
        program = Program([7], [[]])
        self.assertEqual(states(program), [begin(program)])
        self.assertEqual(ends(program), [begin(program)])
        program = Program([7], [[("write", 0, number(8)), ("read", 1, 0)]])
        first = ((0,), (ZEROS,), (7,), NONE_HELD, (True,))
        second = ((1,), (ZEROS,), (8,), NONE_HELD, (True,))
        third = ((2,), ((0, 8, 0),), (8,), NONE_HELD, (True,))
        self.assertEqual(states(program), [first, second, third])
        self.assertEqual(ends(program), [third])

    def test_each_state_once_however_led_to(self):
        # Two schedules lead to the one end, and to two where the order of the writes tells.
        program = Program([0], [[("fork", 1), SET], [SET]])
        self.assertEqual(len(states(program)), 5)
        self.assertEqual(ends(program), [((2, 1), (ZEROS, ZEROS), (0,), NONE_HELD, (True, True))])
        program = Program([0], [[("fork", 1), WRITE], [("write", 0, number(2))]])
        self.assertEqual(len(states(program)), 6)
        self.assertEqual(sorted(state[2] for state in ends(program)), [(1,), (2,)])

    def test_threads_that_sleep(self):
        program = Program([0], [[SET], [WRITE], [WRITE]])
        self.assertEqual(len(states(program)), 2)
        self.assertEqual(len(ends(program)), 1)

    def test_kinds(self):
        program = Program([0], [[("fork", 1), WRITE], [READ]])
        for told in (states(program), ends(program)):
            self.assertIs(type(told), list)
            for state in told:
                self.assertIs(type(state), tuple)
                self.assertEqual([type(part) for part in state], [tuple] * 5)

    def test_many_programs(self):
        great = 0
        large = 0
        for values, codes in programs():
            program = Program(values, codes)
            known = helper.slow_states(values, codes)
            if len(known) > 400:
                great += 1
                for ask in (states, ends, clash):
                    self.too_great(ask, program)
                continue
            large += len(known) > 50
            told = states(program)
            self.assertEqual(repr(told[0]), repr(helper.SlowRun(values, codes).state()), (values, codes))
            self.assertEqual(len(told), len(known), (values, codes))
            self.assertEqual({repr(state) for state in told}, {repr(state) for state in known}, (values, codes))
            self.assert_ends(values, codes, known, ends(program))
        self.assertGreater(great, 2)
        self.assertGreater(large, 30)

    def assert_ends(self, values, codes, known, told):
        wanted = set()
        for state, schedule in known.items():
            slow = helper.slow_walk(values, codes, schedule)
            if not any(slow.may(thread) for thread in range(len(codes))):
                wanted.add(state)
        self.assertEqual(len(told), len(wanted), (values, codes))
        self.assertEqual(set(told), wanted, (values, codes))

    def test_where_programs_become_too_great(self):
        self.assertEqual(len(helper.slow_states([0], helper.OF_400)), 400)
        program = Program([0], helper.OF_400)
        self.assertEqual(len(set(states(program))), 400)
        self.assertEqual([state[0] for state in ends(program)], [(8, 6, 7)])
        self.assertIsNone(clash(program))
        self.assertEqual(len(helper.slow_states([0], helper.OF_401)), 401)
        for ask in (states, ends, clash):
            self.too_great(ask, Program([0], helper.OF_401))
            self.too_great(ask, Program([0], helper.of_sets(6, 8, 8)))

    def test_a_clash_at_once_does_not_spare_the_refusal(self):
        # What is written and read is what is there, so that these lines change no more than sets do.
        write = ("write", 0, number(0))
        for great, codes in ((False, helper.OF_400), (True, helper.OF_401)):
            program = Program([0], [codes[0][:2] + [write] + codes[0][3:], [READ] + codes[1][1:], codes[2]])
            if great:
                for ask in (states, ends, clash):
                    self.too_great(ask, program)
            else:
                self.assertEqual(len(states(program)), 400)
                self.assertEqual(clash(program)[1:], (0, 1))

    def test_equal_ends_of_unlike_states_are_told_apart(self):
        # The same values, but other own values, lines, holders or sleepers.
        program = Program([0], [
            [("fork", 1), ("read", 0, 0), ("skip", ("own", 0), "==", number(0), 1), ("take", 0)],
            [("write", 0, number(1))],
        ])
        told = ends(program)
        self.assertEqual(len(told), 2)
        self.assertEqual(sorted(str(state[3][0]) for state in told), ["0", "None"])


class Stuck(Questions):
    def stuck(self, program, schedule, told):
        self.assertIs(is_stuck(program, run(program, schedule)[0]), told)

    def test_ended_or_asleep(self):
        self.stuck(Program([0], [[]]), [], False)
        self.stuck(Program([0], [[], [SET], [("take", 0)]]), [], False)
        self.stuck(Program([0], [[SET]]), [0], False)
        # Ended by a skip beyond the last line, holding a lock.
        program = Program([0], [[("take", 0), ("skip", number(0), "==", number(0), 8), ("take", 0)]])
        self.stuck(program, [0, 0], False)

    def test_where_some_thread_may_move(self):
        self.stuck(Program([0], [[SET]]), [], False)
        program = Program([0], [[("fork", 1), ("take", 0), ("take", 0)], [SET]])
        self.stuck(program, [0, 0], False)
        self.stuck(program, [0, 0, 1], True)

    def test_one_thread_or_several_shut_out(self):
        for line in (("give", 0), ("fork", 0), ("wait", 0)):
            self.stuck(Program([0], [[line]]), [], True)
            self.stuck(Program([0], [[("fork", 1)], [SET, line]]), [0], False)
            self.stuck(Program([0], [[("fork", 1)], [SET, line]]), [0, 1], line != ("wait", 0))
        crossed = Program([0], [
            [("fork", 1), ("take", 0), ("take", 1)], [("take", 1), ("take", 0)],
        ])
        self.stuck(crossed, [0, 0], False)
        self.stuck(crossed, [0, 0, 1], True)
        # Thread 0 has ended with both locks, and the other way round.
        self.stuck(crossed, [0, 0, 0], True)
        self.stuck(crossed, [0, 1, 1], True)

    def test_many_programs(self):
        number_of = {True: 0, False: 0}
        for values, codes in programs():
            program = Program(values, codes)
            threads = range(len(codes))
            for state, schedule in list(helper.slow_states(values, codes).items())[:150]:
                slow = helper.slow_walk(values, codes, schedule)
                none_may = not any(slow.may(thread) for thread in threads)
                wanted = none_may and any(slow.awake[thread] and not slow.ended(thread) for thread in threads)
                self.assertIs(is_stuck(program, state), wanted, (values, codes, schedule))
                number_of[wanted] += 1
        self.assertGreater(number_of[True], 100)
        self.assertGreater(number_of[False], 1000)


class Reasons(Questions):
    def reasons(self, program, schedule, wanted):
        told = reasons(program, run(program, schedule)[0])
        self.assertEqual(told, wanted)
        self.assertIs(type(told), list)
        for part in told:
            self.assertIn(type(part), (tuple, type(None)))

    def test_none(self):
        self.reasons(Program([0], [[]]), [], [None])
        self.reasons(Program([0], [[SET], [("take", 0)], [("give", 0)]]), [], [None, None, None])
        self.reasons(Program([0], [[SET]]), [0], [None])
        for line in (SET, READ, WRITE, ("skip", number(0), "<", number(1), 8), ("take", 2), ("fork", 1)):
            self.reasons(Program([0], [[line], [WRITE]]), [], [None, None])
        # A give of what it holds, and a wait for one that has ended.
        self.reasons(Program([0], [[("take", 2), ("give", 2)]]), [0], [None])
        self.reasons(Program([0], [[("fork", 1), ("wait", 1)], []]), [0], [None, None])
        # Ended and waited for by one that may not.
        self.reasons(Program([0], [[("fork", 1)], [("wait", 0)]]), [0], [None, None])

    def test_locks(self):
        for lock in range(3):
            program = Program([0], [[("take", lock), ("fork", 1), ("fork", 2)], [("take", lock)], [("take", lock)]])
            shut = ("lock", lock, 0)
            self.reasons(program, [0], [None, None, None])
            self.reasons(program, [0, 0], [None, shut, None])
            self.reasons(program, [0, 0, 0], [None, shut, shut])
            self.reasons(Program([0], [[("take", lock), ("take", lock)]]), [0], [shut])
            program = Program([0], [[("fork", 2), ("take", lock)], [], [("take", lock), ("take", lock)]])
            self.reasons(program, [0, 2], [("lock", lock, 2), None, ("lock", lock, 2)])
            self.reasons(program, [0, 0], [None, None, ("lock", lock, 0)])

    def test_a_lock_that_was_given_back(self):
        program = Program([0], [[("take", 1), ("fork", 1), ("give", 1), ("take", 1)], [("take", 1), ("give", 1)]])
        self.reasons(program, [0, 0], [None, ("lock", 1, 0)])
        self.reasons(program, [0, 0, 0], [None, None])
        self.reasons(program, [0, 0, 0, 1], [("lock", 1, 1), None])
        self.reasons(program, [0, 0, 0, 0], [None, ("lock", 1, 0)])

    def test_waits(self):
        # For one that is asleep, ended or not; for one that has not ended; for itself.
        self.reasons(Program([0], [[("wait", 1)], [SET], []]), [], [("wait", 1), None, None])
        self.reasons(Program([0], [[("wait", 2)], [SET], []]), [], [("wait", 2), None, None])
        program = Program([0], [[("fork", 1), ("wait", 1)], [SET, ("wait", 0)]])
        self.reasons(program, [0], [("wait", 1), None])
        self.reasons(program, [0, 1], [("wait", 1), ("wait", 0)])
        self.reasons(Program([0], [[("wait", 0)]]), [], [("wait", 0)])
        program = Program([0], [[("fork", 2)], [], [("wait", 2)]])
        self.reasons(program, [0], [None, None, ("wait", 2)])

    def test_never(self):
        never = ("never",)
        for lock in range(3):
            self.reasons(Program([0], [[("give", lock)]]), [], [never])
            program = Program([0], [[("fork", 1), ("take", lock), SET], [("give", lock)]])
            self.reasons(program, [0], [None, never])
            self.reasons(program, [0, 0], [None, never])
            program = Program([0], [[("fork", 1), ("give", lock)], [("take", lock)]])
            self.reasons(program, [0, 1], [never, None])
        # A fork of itself, of thread 0, of another that is awake, also where that one has ended.
        self.reasons(Program([0], [[("fork", 0)]]), [], [never])
        self.reasons(Program([0], [[("fork", 1)], [("fork", 1)]]), [0], [None, never])
        self.reasons(Program([0], [[("fork", 1)], [("fork", 0)]]), [0], [None, never])
        self.reasons(Program([0], [[("fork", 1), ("fork", 1)], [SET]]), [0], [never, None])
        self.reasons(Program([0], [[("fork", 1), ("fork", 1)], [SET]]), [0, 1], [never, None])
        self.reasons(Program([0], [[("fork", 1)], [("fork", 2)], []]), [0], [None, None, None])

    def test_many_programs(self):
        words = []
        for values, codes in programs():
            program = Program(values, codes)
            for state, schedule in list(helper.slow_states(values, codes).items())[:150]:
                slow = helper.slow_walk(values, codes, schedule)
                wanted = [helper.slow_reason(slow, thread) for thread in range(len(codes))]
                self.assertEqual(reasons(program, state), wanted, (values, codes, schedule))
                words += [reason[0] for reason in wanted if reason is not None]
        for word in ("lock", "wait", "never"):
            self.assertGreater(words.count(word), 100, word)


class Clashes(Questions):
    def clash_of(self, lines, wanted):
        """Of three threads, all awake, that are at these lines; None for one that sleeps."""
        asleep = [thread for thread in (1, 2) if lines[thread] is None]
        codes = [[("fork", thread) for thread in (1, 2) if thread not in asleep], [], []]
        for thread in range(3):
            codes[thread] += [WRITE] if lines[thread] is None else lines[thread]
        program = Program([0, 0], codes)
        told = clash_in(program, run(program, [0] * (2 - len(asleep)))[0])
        self.assertEqual(told, wanted, lines)
        self.assertIn(type(told), (tuple, type(None)))

    def test_reads_and_writes(self):
        write = ("write", 0, ("own", 2))
        # Neither own names nor what is written tell anything.
        for one, other, so in (
            (READ, WRITE, True), (WRITE, READ, True), (WRITE, write, True), (WRITE, WRITE, True), (READ, READ, False),
            (("read", 1, 0), READ, False), (("read", 1, 0), write, True), (("read", 0, 1), WRITE, False),
            (("read", 1, 1), ("write", 0, number(1)), False), (("write", 1, number(0)), WRITE, False),
            (("write", 1, number(0)), ("read", 0, 1), True), (("write", 1, number(0)), ("read", 1, 0), False),
        ):
            self.clash_of([[one], [other], []], (0, 1) if so else None)
            self.clash_of([[one], [], [other]], (0, 2) if so else None)
            self.clash_of([[], [one], [other]], (1, 2) if so else None)

    def test_other_lines(self):
        for line in (
            SET, ("skip", ("own", 0), "==", ("own", 0), 0), ("take", 0), ("give", 0), ("fork", 0), ("wait", 0),
            ("set", 0, number(0), "+", number(0)), ("skip", number(0), "<", number(0), 0),
        ):
            for other in (READ, WRITE, line):
                self.clash_of([[line], [other], []], None)
                self.clash_of([[other], [], [line]], None)

    def test_only_the_next_lines_tell(self):
        self.clash_of([[SET, WRITE], [WRITE], []], None)
        self.clash_of([[READ, WRITE], [READ], []], None)
        self.clash_of([[WRITE, SET], [READ, SET], []], (0, 1))

    def test_the_least_of_several(self):
        self.clash_of([[WRITE], [WRITE], [WRITE]], (0, 1))
        self.clash_of([[READ], [READ], [WRITE]], (0, 2))
        self.clash_of([[READ], [WRITE], [READ]], (0, 1))
        self.clash_of([[WRITE], [READ], [READ]], (0, 1))
        self.clash_of([[WRITE], [("read", 0, 1)], [READ]], (0, 2))
        self.clash_of([[("read", 0, 1)], [WRITE], [READ]], (1, 2))
        self.clash_of([[SET], [WRITE], [READ]], (1, 2))

    def test_asleep_or_ended(self):
        self.clash_of([[WRITE], None, None], None)
        self.clash_of([[WRITE], None, [READ]], (0, 2))
        self.clash_of([[], [WRITE], None], None)
        self.clash_of([[WRITE], [], []], None)
        program = Program([0], [[("fork", 1), WRITE], [WRITE]])
        self.assertIsNone(clash_in(program, begin(program)))
        self.assertEqual(clash_in(program, run(program, [0])[0]), (0, 1))
        self.assertIsNone(clash_in(program, run(program, [0, 0])[0]))
        self.assertIsNone(clash_in(program, run(program, [0, 1])[0]))
        # Beyond the last line by a skip.
        program = Program([0], [[("fork", 1), ("skip", number(0), "==", number(0), 4), WRITE], [WRITE]])
        self.assertIsNone(clash_in(program, run(program, [0, 0])[0]))

    def test_led_to(self):
        program = Program([0], [[("fork", 1), SET, WRITE], [SET, READ]])
        told = clash(program)
        self.assertIs(type(told), tuple)
        self.assertEqual((type(told[0]), len(told)), (list, 3))
        self.assertEqual(told[1:], (0, 1))
        self.assertEqual(sorted(told[0]), [0, 0, 1])
        self.assertEqual(clash(Program([0], [[("fork", 1), WRITE], [WRITE]])), ([0], 0, 1))
        program = Program([0], [[("fork", 1)], [("fork", 2), WRITE], [READ]])
        self.assertEqual(clash(program), ([0, 1], 1, 2))

    def test_free(self):
        for codes in (
            [[]], [[WRITE, READ, WRITE]], [[WRITE], [WRITE], [WRITE]],
            [[WRITE, ("fork", 1)], [WRITE]],
            [[("fork", 1), ("wait", 1), WRITE], [WRITE]],
            [[("fork", 1), READ], [READ]],
            [[("fork", 1), ("take", 0), WRITE, ("give", 0)], [("take", 0), READ, ("give", 0)]],
            # Shut out for good ahead of the read.
            [[("fork", 1), WRITE], [("give", 0), READ]],
            [[("fork", 1), WRITE], [("skip", number(0), "==", number(0), 1), READ]],
        ):
            self.assertIsNone(clash(Program([0], codes)), codes)

    def test_not_free(self):
        for codes, pair in (
            [[[("fork", 1), WRITE, ("wait", 1)], [WRITE]], (0, 1)],
            # Unlike locks, or given back ahead of the write.
            [[[("fork", 1), ("take", 0), WRITE, ("give", 0)], [("take", 1), READ, ("give", 1)]], (0, 1)],
            [[[("fork", 1), ("take", 0), ("give", 0), WRITE], [("take", 0), READ, ("give", 0)]], (0, 1)],
            # Only where thread 1 goes first does thread 0 come to its write.
            [[[("fork", 1), ("read", 1, 1), ("skip", ("own", 1), "==", number(0), 1), WRITE],
              [("write", 1, number(1)), READ]], (0, 1)],
        ):
            found = clash(Program([0, 0], codes))
            self.assertIsNotNone(found, codes)
            self.assertEqual(found[1:], pair)


class ManyClashes(Questions):
    def is_walked(self, program, values, codes, told):
        schedule, one, other = told
        self.assertLess(one, other)
        state = begin(program)
        for thread in schedule:
            self.assertIn(thread, movers(program, state), (values, codes, told))
            state = moved(program, state, thread)
        slow = helper.slow_walk(values, codes, schedule)
        self.assertEqual(helper.slow_clash_in(slow), (one, other), (values, codes, told))
        self.assertEqual(clash_in(program, state), (one, other), (values, codes, told))
        for pair in ((one, other), (other, one)):
            deeds = run(program, schedule + list(pair))[1]
            self.assertEqual([deed[0] for deed in deeds[-2:]], list(pair))
            last = (len(deeds) - 2, len(deeds) - 1)
            self.assertIn(last, races(Row(len(codes), deeds)), (values, codes, told))
            self.assertIn(last, helper.slow_races(deeds), (values, codes, told))

    def test_many_programs(self):
        number_of = {True: 0, False: 0}
        for values, codes in programs():
            known = helper.slow_states(values, codes)
            program = Program(values, codes)
            found = [
                helper.slow_clash_in(helper.slow_walk(values, codes, schedule)) for schedule in known.values()
            ]
            self.assertEqual([clash_in(program, state) for state in known], found, (values, codes))
            if len(known) > 400:
                continue
            told = clash(program)
            self.assertEqual(told is None, not any(found), (values, codes))
            self.assertEqual(told, clash(program))
            self.assertEqual(told, clash(Program(list(values), [list(code) for code in codes])))
            if told is not None:
                self.is_walked(program, values, codes, told)
            number_of[told is None] += 1
        self.assertGreater(number_of[True], 100)
        self.assertGreater(number_of[False], 60)

    def test_runs_with_a_race(self):
        source = random.Random(64)
        raced = 0
        for values, codes in programs():
            program = Program(values, codes)
            try:
                free = clash(program) is None
            except errors.TooGreat:
                continue
            for turn in range(4):
                deeds = run(program, helper.some_schedule(source, values, codes))[1]
                if helper.slow_races(deeds):
                    raced += 1
                    self.assertFalse(free, (values, codes))
                self.assertEqual(races(Row(len(codes), deeds)), helper.slow_races(deeds))
        self.assertGreater(raced, 50)

    def test_all_runs_of_small_programs(self):
        lines = [READ, WRITE, ("write", 1, ("own", 0)), ("skip", ("own", 0), "==", number(0), 1), ("take", 0)]
        lines += [("give", 0), ("wait", 1)]
        number_of = {True: 0, False: 0}
        for size in (1, 2):
            for values, codes in helper.small_programs(lines, size):
                raced = any(helper.slow_races(deeds) for deeds in helper.all_runs(values, codes))
                self.assertIs(clash(Program(values, codes)) is None, not raced, codes)
                number_of[raced] += 1
        self.assertGreater(number_of[True], 100)
        self.assertGreater(number_of[False], 100)


class TooGreatForAll(Questions):
    def test_one_state_is_answered_for(self):
        codes = [[("fork", 1), ("fork", 2)] + [SET] * 5 + [WRITE], [SET] * 7 + [READ], [SET] * 7 + [("take", 0)]]
        program = Program([0], codes)
        for ask in (states, ends, clash):
            self.too_great(ask, program)
        first = begin(program)
        self.assertEqual(reasons(program, first), [None, None, None])
        self.assertIs(is_stuck(program, first), False)
        self.assertIsNone(clash_in(program, first))
        both = run(program, [0] * 7 + [1] * 7)[0]
        self.assertEqual(clash_in(program, both), (0, 1))
        codes = [[("fork", 1), ("fork", 2), ("take", 0)] + [SET] * 4 + [("wait", 1)]]
        codes += [[SET] * 7 + [("give", 0)], [SET] * 7 + [("take", 0)]]
        program = Program([0], codes)
        self.too_great(states, program)
        last = run(program, [0] * 7 + [1] * 7 + [2] * 7)[0]
        self.assertEqual(reasons(program, last), [("wait", 1), ("never",), ("lock", 0, 0)])
        self.assertIs(is_stuck(program, last), True)
        self.assertIsNone(clash_in(program, last))


class HandedInAndTold(Questions):
    def test_told_lists_are_the_askers_own(self):
        for values, codes in helper.some_busy_programs(65, 60, 5):
            program = Program(list(values), [list(code) for code in codes])
            try:
                wanted = [repr(ask(program)) for ask in (states, ends, clash)]
            except errors.TooGreat:
                continue
            state = ends(program)[0]
            of_state = [repr(ask(program, state)) for ask in (reasons, is_stuck, clash_in)]
            told = clash(program)
            for part in (states(program), ends(program), reasons(program, state), [] if told is None else told[0]):
                part.append(7)
                part[0] = None
                part.reverse()
            self.assertEqual([repr(ask(program)) for ask in (states, ends, clash)], wanted)
            self.assertEqual([repr(ask(program, state)) for ask in (reasons, is_stuck, clash_in)], of_state)
            self.assertEqual(program.first_values(), values)
            self.assertEqual([program.code(thread) for thread in range(len(codes))], codes)

    def test_lists_that_are_changed_behind_the_making(self):
        values = [0]
        codes = [[("fork", 1), WRITE], [READ]]
        program = Program(values, codes)
        wanted = [repr(ask(program)) for ask in (states, ends, clash)]
        values[0] = 9
        codes[1].clear()
        codes[0].append(SET)
        self.assertEqual([repr(ask(program)) for ask in (states, ends, clash)], wanted)

    def test_states_that_were_told_are_taken_again(self):
        for values, codes in helper.some_programs(66, 40, 5):
            program = Program(values, codes)
            for state in states(program)[:40]:
                before = repr(state)
                self.assertEqual([ended(program, state, thread) for thread in range(len(codes))],
                                 [not line < len(code) for line, code in zip(state[0], codes)])
                reasons(program, state)
                is_stuck(program, state)
                clash_in(program, state)
                self.assertEqual(repr(state), before)


if __name__ == "__main__":
    unittest.main()
