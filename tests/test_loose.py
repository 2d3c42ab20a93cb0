import random
import unittest

import helper
from racewise import errors
from racewise.kept import begin, moved, run
from racewise.looks import clash, ends
from racewise.loose import loose_begin, loose_ends, loose_moved, loose_moves
from racewise.programs import Program

BIG = helper.BIG
NONE_HELD = (None, None, None)
ZEROS = (0, 0, 0)
SET = helper.SET
SAME = helper.SAME
OTHERS = ("NoRow", "NoWeaving", "NoRace", "NoProgram", "TooGreat", "NoText", "NoWords")


def number(value):
    return ("number", value)


def write(name, value):
    return ("write", name, ("number", value))


def walked(program, moves):
    loose = loose_begin(program)
    for move in moves:
        loose = loose_moved(program, loose, move)
    return loose


def do(*threads):
    return [("do", thread) for thread in threads]


def out(thread, *names):
    return [("out", thread, name) for name in names]


class Questions(unittest.TestCase):
    def refused(self, kind, ask, *parts):
        try:
            ask(*parts)
        except kind as e:
            self.assertIsInstance(e, errors.RaceError)
            self.assertIsInstance(e, ValueError)
            for name in set(OTHERS) | {"NoMove"}:
                if getattr(errors, name) is not kind:
                    self.assertNotIsInstance(e, getattr(errors, name))
        else:
            self.fail(f"not refused: {parts[1:]!r}")

    def moves(self, program, loose, wanted):
        """Just these moves are told, in this order, and all that are near and are none of them are refused."""
        told = loose_moves(program, loose)
        self.assertEqual(told, wanted)
        self.assertIs(type(told), list)
        for move in near_moves():
            if move in wanted:
                loose_moved(program, loose, move)
            else:
                self.refused(errors.NoMove, loose_moved, program, loose, move)

    def does(self, program, loose, move, state, books):
        told = loose_moved(program, loose, move)
        self.assertEqual(told, (state, books))
        self.assertEqual([type(part) for part in (told, told[0], told[1])], [tuple] * 3)
        for book in told[1]:
            self.assertEqual([type(part) for part in (book,) + book], [tuple] * (1 + len(book)))
        return told


def near_moves():
    threads = list(range(-3, 5))
    return do(*threads) + [("out", thread, name) for thread in threads for name in range(-4, 6)]


class Begin(Questions):
    def test_first_loose_states(self):
        for values, codes in ([[7], [[]]], [[1, 2], [[SET], []]], [[0, -1, BIG], [[], [SET], [SAME]]]):
            program = Program(values, codes)
            told = loose_begin(program)
            self.assertEqual(told, (begin(program), ((),) * len(codes)))
            self.assertEqual([type(part) for part in (told,) + told], [tuple] * 3)


class Books(Questions):
    def test_a_write_waits(self):
        program = Program([5, 6], [[write(1, 7), ("write", 1, ("own", 2)), write(0, -BIG)]])
        loose = loose_begin(program)
        for line, pair in enumerate(((1, 7), (1, 0), (0, -BIG))):
            books = (loose[1][0] + (pair,),)
            loose = self.does(program, loose, ("do", 0), ((line + 1,), (ZEROS,), (5, 6), NONE_HELD, (True,)), books)
        self.assertEqual(loose[1], (((1, 7), (1, 0), (0, -BIG)),))

    def test_out_lets_the_oldest_of_the_name_go(self):
        program = Program([5, 6], [[write(1, 7), write(0, 8), write(1, 9), write(0, 10)]])
        loose = walked(program, do(0, 0, 0, 0))
        base = ((4,), (ZEROS,))
        rest = (NONE_HELD, (True,))
        self.does(program, loose, ("out", 0, 1), base + ((5, 7),) + rest, (((0, 8), (1, 9), (0, 10)),))
        loose = self.does(program, loose, ("out", 0, 0), base + ((8, 6),) + rest, (((1, 7), (1, 9), (0, 10)),))
        loose = self.does(program, loose, ("out", 0, 0), base + ((10, 6),) + rest, (((1, 7), (1, 9)),))
        loose = self.does(program, loose, ("out", 0, 1), base + ((10, 7),) + rest, (((1, 9),),))
        self.does(program, loose, ("out", 0, 1), base + ((10, 9),) + rest, ((),))

    def test_out_of_equal_writes(self):
        program = Program([5, 6], [[write(0, 7), write(1, 1), write(0, 7)]])
        loose = walked(program, do(0, 0, 0) + out(0, 0))
        self.assertEqual(loose[1], (((1, 1), (0, 7)),))

    def test_each_thread_has_its_book(self):
        program = Program([0, 0], [[("fork", 1), write(0, 1)], [write(0, 2), write(1, 3)]])
        loose = walked(program, do(0, 0, 1, 1))
        self.assertEqual(loose[1], (((0, 1),), ((0, 2), (1, 3))))
        self.assertEqual(loose[0][2], (0, 0))
        self.assertEqual(walked(program, do(0, 0, 1, 1) + out(1, 0) + out(0, 0))[0][2], (1, 0))
        self.assertEqual(walked(program, do(0, 0, 1, 1) + out(0, 0) + out(1, 0))[0][2], (2, 0))
        self.assertEqual(walked(program, do(0, 0, 1, 1) + out(0, 0))[1], ((), ((0, 2), (1, 3))))

    def test_a_read_gets_the_newest_of_its_own_book(self):
        code = [write(0, 1), write(0, 2), write(1, 3), ("read", 0, 0), ("read", 1, 1), ("read", 2, 2)]
        program = Program([7, 8, 9], [code])
        self.assertEqual(walked(program, do(*[0] * 6))[0], ((6,), ((2, 3, 9),), (7, 8, 9), NONE_HELD, (True,)))
        # Still the newest one where the oldest is out, and the shared value where all are.
        loose = walked(program, do(0, 0, 0) + out(0, 0) + do(0, 0, 0))
        self.assertEqual((loose[0][1:3], loose[1]), ((((2, 3, 9),), (1, 8, 9)), (((0, 2), (1, 3)),)))
        loose = walked(program, do(0, 0, 0) + out(0, 0, 0, 1) + do(0, 0, 0))
        self.assertEqual((loose[0][1:3], loose[1]), ((((2, 3, 9),), (2, 3, 9)), ((),)))

    def test_a_read_gets_nothing_of_other_books(self):
        program = Program([7], [[("fork", 1), write(0, 1)], [("read", 0, 0), ("read", 1, 0)]])
        self.assertEqual(walked(program, do(0, 0, 1, 1))[0][1][1], (7, 7, 0))
        self.assertEqual(walked(program, do(0, 0, 1) + out(0, 0) + do(1))[0][1][1], (7, 1, 0))

    def test_a_read_gets_what_is_shared_by_now(self):
        # The own write is out, and another one's is out behind it.
        program = Program([7], [[("fork", 1), write(0, 1), ("read", 0, 0)], [write(0, 2)]])
        self.assertEqual(walked(program, do(0, 0, 1) + out(0, 0) + out(1, 0) + do(0))[0][1][0], (2, 0, 0))
        self.assertEqual(walked(program, do(0, 0, 1) + out(1, 0) + do(0))[0][1][0], (1, 0, 0))

    def test_what_is_written_is_told_when_it_is_done(self):
        program = Program([7], [[("write", 0, ("own", 1)), ("set", 1, number(4), "+", number(1)),
                                 ("write", 0, ("own", 1))]])
        self.assertEqual(walked(program, do(0, 0, 0))[1], (((0, 0), (0, 5)),))

    def test_what_is_handed_in_stays(self):
        program = Program([7, 8], [[("fork", 1), write(0, 1), write(1, 2), ("read", 0, 0)], [write(0, 3)]])
        loose = walked(program, do(0, 0, 0, 1))
        before = repr(loose)
        for move in loose_moves(program, loose):
            loose_moved(program, loose, move)
        self.assertEqual(repr(loose), before)


class Moves(Questions):
    def test_without_writes_as_in_the_kept_order(self):
        source = random.Random(70)
        for values, codes in helper.some_programs(70, 150):
            codes = [[SET if line[0] == "write" else line for line in code] for code in codes]
            program = Program(values, codes)
            schedule = helper.some_schedule(source, values, codes)
            loose = walked(program, do(*schedule))
            self.assertEqual(loose, (run(program, schedule)[0], ((),) * len(codes)))

    def test_take_give_and_fork_with_an_empty_book_alone(self):
        for first, line in (([], ("take", 1)), ([("take", 1)], ("give", 1)), ([], ("fork", 1)), ([], ("fork", 2))):
            program = Program([0, 0], [first + [write(1, 5), line], [SET], [SET]])
            loose = walked(program, do(*[0] * (len(first) + 1)))
            self.moves(program, loose, out(0, 1))
            loose = loose_moved(program, loose, ("out", 0, 1))
            self.moves(program, loose, do(0))
            state = moved(program, loose[0], 0)
            self.does(program, loose, ("do", 0), state, ((), (), ()))

    def test_books_of_others_do_not_shut_out(self):
        for first, line in (([], ("take", 1)), ([("take", 1)], ("give", 1)), ([], ("fork", 2))):
            program = Program([0], [[("fork", 1)] + first + [line], [write(0, 1), SET], [SET]])
            loose = walked(program, do(*[0] * (len(first) + 1)) + do(1))
            self.moves(program, loose, do(0, 1) + out(1, 0))

    def test_other_lines_with_whatever_book(self):
        for line in (SET, SAME, ("read", 0, 0), ("skip", number(0), "==", number(0), 1)):
            program = Program([0], [[SAME, line]])
            self.moves(program, walked(program, do(0)), do(0) + out(0, 0))

    def test_wait(self):
        program = Program([0, 0], [[("fork", 1), write(0, 1), ("wait", 1)], [write(1, 2)]])
        # The other one has not ended, or its book, the own one or both are not empty.
        self.moves(program, walked(program, do(0, 0)), do(1) + out(0, 0))
        self.moves(program, walked(program, do(0, 0) + out(0, 0)), do(1))
        self.moves(program, walked(program, do(0, 0, 1)), out(0, 0) + out(1, 1))
        self.moves(program, walked(program, do(0, 0, 1) + out(0, 0)), out(1, 1))
        self.moves(program, walked(program, do(0, 0, 1) + out(1, 1)), out(0, 0))
        loose = walked(program, do(0, 0, 1) + out(0, 0) + out(1, 1))
        self.moves(program, loose, do(0))
        self.does(program, loose, ("do", 0), moved(program, loose[0], 0), ((), ()))

    def test_wait_while_a_third_one_has_a_book(self):
        program = Program([0], [[("fork", 1), ("fork", 2), ("wait", 1)], [], [write(0, 1)]])
        self.moves(program, walked(program, do(0, 0, 2)), do(0) + out(2, 0))

    def test_wait_for_one_asleep_or_itself(self):
        program = Program([0], [[("wait", 1)], []])
        self.moves(program, loose_begin(program), [])
        program = Program([0], [[("wait", 0)]])
        self.moves(program, loose_begin(program), [])

    def test_order(self):
        codes = [[("fork", 1), ("fork", 2)] + [write(name, 1) for name in (2, 0, 2, 3)] + [SET]]
        codes += [[write(name, 1) for name in (3, 1, 0, 1)] + [SET], [write(2, 1), SET]]
        program = Program([0] * 4, codes)
        loose = walked(program, do(*[0] * 6 + [1] * 4 + [2]))
        self.moves(program, loose, do(0, 1, 2) + out(0, 0, 2, 3) + out(1, 0, 1, 3) + out(2, 2))
        loose = loose_moved(program, loose, ("out", 0, 2))
        self.moves(program, loose, do(0, 1, 2) + out(0, 0, 2, 3) + out(1, 0, 1, 3) + out(2, 2))
        loose = loose_moved(program, loose, ("out", 0, 2))
        self.moves(program, loose, do(0, 1, 2) + out(0, 0, 3) + out(1, 0, 1, 3) + out(2, 2))
        loose = loose_moved(program, loose, ("do", 1))
        self.moves(program, loose, do(0, 2) + out(0, 0, 3) + out(1, 0, 1, 3) + out(2, 2))

    def test_an_ended_thread_lets_its_book_out(self):
        program = Program([0], [[write(0, 1)]])
        self.moves(program, walked(program, do(0)), out(0, 0))
        self.moves(program, walked(program, do(0) + out(0, 0)), [])

    def test_refused_moves(self):
        program = Program([0, 0], [[("fork", 1), write(1, 1), ("take", 0)], [("give", 0)]])
        loose = walked(program, do(0, 0))
        before = repr(loose)
        self.moves(program, loose, out(0, 1))
        for thread in (-BIG, -2, -1, 2, 3, 4, BIG):
            self.refused(errors.NoMove, loose_moved, program, loose, ("do", thread))
            for name in (0, 1):
                self.refused(errors.NoMove, loose_moved, program, loose, ("out", thread, name))
        for name in (-BIG, -1, 0, 2, 3, 4, BIG):
            self.refused(errors.NoMove, loose_moved, program, loose, ("out", 0, name))
            self.refused(errors.NoMove, loose_moved, program, loose, ("out", 1, name))
        self.assertEqual(repr(loose), before)


class Agree(Questions):
    def drawn_walk(self, source, values, codes):
        """Each loose state of a walk, and what may be done in it, is as told slowly."""
        program = Program(values, codes)
        slow = helper.SlowLoose(values, codes)
        loose = loose_begin(program)
        done = []
        while True:
            self.assertEqual(repr(loose), repr(slow.loose()), (values, codes, done))
            told = loose_moves(program, loose)
            self.assertEqual(told, slow.moves(), (values, codes, done))
            for move in near_moves()[::7]:
                if move not in told:
                    self.refused(errors.NoMove, loose_moved, program, loose, move)
            if not told:
                return done
            done.append(source.choice(told))
            loose = loose_moved(program, loose, done[-1])
            slow.go(done[-1])

    def test_drawn_walks(self):
        source = random.Random(71)
        outs = 0
        programs = helper.some_programs(71, 150) + helper.some_busy_programs(72, 100, 8)
        for values, codes in programs + helper.some_guarded_programs(73, 50, 8):
            for turn in range(2):
                outs += sum(move[0] == "out" for move in self.drawn_walk(source, values, codes))
        self.assertGreater(outs, 500)

    def test_ends_of_many_programs(self):
        great = 0
        large = 0
        several = 0
        programs = helper.some_programs(74, 80) + helper.some_busy_programs(75, 150, 5)
        programs += helper.some_guarded_programs(76, 30, 6)
        for values, codes in programs + helper.some_busy_programs(77, 40, 8):
            known = helper.slow_loose_states(values, codes)
            program = Program(values, codes)
            if len(known) > 1500:
                great += 1
                self.refused(errors.TooGreat, loose_ends, program)
                continue
            told = loose_ends(program)
            self.assertIs(type(told), list)
            wanted = {loose[0] for loose, moves in known.items() if not moves}
            self.assertEqual(len(told), len(wanted), (values, codes))
            self.assertEqual(set(told), wanted, (values, codes))
            large += len(known) > 100
            several += len(told) > 2
            for loose, moves in known.items():
                self.assertTrue(moves or not any(loose[1]))
        self.assertGreater(great, 2)
        self.assertGreater(large, 15)
        self.assertGreater(several, 15)


class Ends(Questions):
    def test_by_hand(self):
        program = Program([7], [[]])
        self.assertEqual(loose_ends(program), [begin(program)])
        program = Program([7], [[write(0, 8), write(0, 9)]])
        self.assertEqual(loose_ends(program), [((2,), (ZEROS,), (9,), NONE_HELD, (True,))])
        # Stuck ends are ends as well.
        program = Program([7], [[write(0, 8), ("give", 0)]])
        self.assertEqual(loose_ends(program), [((1,), (ZEROS,), (8,), NONE_HELD, (True,))])

    def test_an_end_that_the_kept_order_does_not_have(self):
        # Each one's write waits while the other one reads.
        program = Program([0, 0], [[("fork", 1), write(0, 1), ("read", 0, 1)], [write(1, 1), ("read", 0, 0)]])
        both = ((3, 2), (ZEROS, ZEROS), (1, 1), NONE_HELD, (True, True))
        self.assertNotIn(both, ends(program))
        self.assertIn(both, loose_ends(program))
        self.assertEqual(set(loose_ends(program)) - set(ends(program)), {both})
        self.assertIsNotNone(clash(program))

    def test_writes_of_unlike_names_go_out_in_any_order(self):
        # Thread 1 sees the second write and not the first one.
        program = Program([0, 0], [[("fork", 1), write(0, 1), write(1, 1)], [("read", 0, 1), ("read", 1, 0)]])
        seen = {state[1][1][:2] for state in loose_ends(program)}
        self.assertEqual(seen, {(0, 0), (0, 1), (1, 0), (1, 1)})
        self.assertEqual({state[1][1][:2] for state in ends(program)}, {(0, 0), (0, 1), (1, 1)})

    def test_writes_of_one_name_go_out_in_their_order(self):
        program = Program([0], [[("fork", 1), write(0, 1), write(0, 2)], [("read", 0, 0), ("read", 1, 0)]])
        seen = {state[1][1][:2] for state in loose_ends(program)}
        self.assertEqual(seen, {(0, 0), (0, 1), (0, 2), (1, 1), (1, 2), (2, 2)})
        self.assertEqual({state[2] for state in loose_ends(program)}, {(2,)})

    def test_locks_make_the_orders_alike(self):
        add = ("set", 0, ("own", 0), "+", number(1))
        code = [("take", 0), ("read", 0, 0), add, ("write", 0, ("own", 0)), ("give", 0)]
        program = Program([0], [[("fork", 1)] + code + [("wait", 1)], code])
        self.assertIsNone(clash(program))
        self.assertEqual(set(loose_ends(program)), set(ends(program)))
        self.assertEqual({state[2] for state in loose_ends(program)}, {(2,)})

    def test_where_programs_become_too_great(self):
        self.assertEqual(len(helper.slow_loose_states([0], helper.OF_1500_LOOSE)), 1500)
        self.assertEqual([state[0] for state in loose_ends(Program([0], helper.OF_1500_LOOSE))], [(8, 1, 8)])
        self.assertEqual(len(helper.slow_loose_states([0], helper.OF_1501_LOOSE, 2000)), 1501)
        self.refused(errors.TooGreat, loose_ends, Program([0], helper.OF_1501_LOOSE))
        # Not too great in the kept order, which has fewer states.
        self.assertEqual(len(ends(Program([0], helper.OF_1501_LOOSE))), 1)
        great = Program([0], [[("fork", 1), ("fork", 2)] + [SAME] * 6, [SAME] * 8, [SAME] * 8])
        self.refused(errors.TooGreat, loose_ends, great)

    def test_more_than_400_states_are_not_too_great(self):
        program = Program([0], helper.of_sets(6, 8, 8))
        self.refused(errors.TooGreat, ends, program)
        self.assertEqual([state[0] for state in loose_ends(program)], [(8, 8, 8)])

    def test_one_loose_state_of_a_program_that_is_too_great(self):
        program = Program([0], [[("fork", 1), ("fork", 2)] + [SAME] * 6, [SAME] * 8, [SAME] * 8])
        loose = walked(program, do(0, 0, 1))
        self.assertEqual(loose_moves(program, loose), do(0, 1, 2) + out(1, 0))
        self.assertEqual(loose_moved(program, loose, ("out", 1, 0))[1], ((), (), ()))


class HandedInAndTold(Questions):
    def test_told_lists_are_the_askers_own(self):
        for values, codes in helper.some_busy_programs(78, 40, 5):
            program = Program(list(values), [list(code) for code in codes])
            try:
                wanted = repr(loose_ends(program))
            except errors.TooGreat:
                continue
            loose = walked(program, do(0))
            of_loose = repr(loose_moves(program, loose))
            for told in (loose_ends(program), loose_moves(program, loose)):
                told.append(7)
                told[0] = None
                told.reverse()
            self.assertEqual(repr(loose_ends(program)), wanted)
            self.assertEqual(repr(loose_moves(program, loose)), of_loose)
            self.assertEqual(program.first_values(), values)
            self.assertEqual([program.code(thread) for thread in range(len(codes))], codes)

    def test_lists_that_are_changed_behind_the_making(self):
        values = [0]
        codes = [[("fork", 1), write(0, 1)], [("read", 0, 0)]]
        program = Program(values, codes)
        wanted = repr(loose_ends(program))
        values[0] = 9
        codes[1].clear()
        codes[0].append(SET)
        self.assertEqual(repr(loose_ends(program)), wanted)
        self.assertEqual(loose_begin(program)[0][2], (0,))


if __name__ == "__main__":
    unittest.main()
