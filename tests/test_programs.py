import itertools
import unittest

import helper
from racewise import errors
from racewise.programs import Program

BIG = helper.BIG
OUT = (-1, -2, -BIG)

# Of a program of three threads and four names: numbers from 0 on that each kind of part may be.
LIMITS = {"own": 3, "name": 4, "lock": 3, "thread": 3, "count": 9}
VALUES = [("own", 0), ("own", 1), ("own", 2)] + [("number", number) for number in (0, 1, -1, 7, BIG, -BIG)]
NO_VALUES = (
    [("own", number) for number in OUT + (3, 4, BIG)]
    + [(kind, 0) for kind in ("", "Own", "owns", "own ", "NUMBER", "numbers", "name", "shared", "read")]
    + [(), ("own",), ("number",), ("own", 0, 0), ("number", 1, 2), ("own", 0, "+"), ("number", 0, ("own", 0))]
)
SIGNS = ["+", "-"]
NO_SIGNS = ["", "*", "+-", "++", " +", "==", "<", "plus", "own"]
TESTS = ["==", "<"]
NO_TESTS = ["", "=", "<=", ">", "!=", "<<", "== ", "+", "-", "is"]
FORMS = [
    ("read", "own", "name"), ("write", "name", "value"), ("set", "own", "value", "sign", "value"),
    ("skip", "value", "test", "value", "count"), ("take", "lock"), ("give", "lock"), ("fork", "thread"),
    ("wait", "thread"),
]


def good_parts(kind):
    return {"value": VALUES, "sign": SIGNS, "test": TESTS}.get(kind) or list(range(LIMITS[kind]))


def bad_parts(kind):
    no_texts = {"value": NO_VALUES, "sign": NO_SIGNS, "test": NO_TESTS}
    return no_texts.get(kind) or list(OUT) + [LIMITS[kind], LIMITS[kind] + 1, BIG]


def good_lines():
    lines = []
    for form in FORMS:
        lines += [form[:1] + parts for parts in itertools.product(*[good_parts(kind) for kind in form[1:]])]
    return lines


def bad_lines():
    """Lines with just one thing that is not so."""
    lines = [(), ("",), ("jump",), ("jump", 0), ("", 0, 0)]
    for form in FORMS:
        good = form[:1] + tuple(good_parts(kind)[0] for kind in form[1:])
        for number, kind in enumerate(form[1:], 1):
            lines += [good[:number] + (part,) + good[number + 1:] for part in bad_parts(kind)]
        lines += [good[:number] for number in range(1, len(good))]
        lines += [good[:number] + good[number + 1:] for number in range(1, len(good))]
        lines += [good + (part,) for part in (0, "+", ("own", 0))]
        lines += [good[:number] + (0,) + good[number:] for number in range(1, len(good))]
        lines += [(word,) + good[1:] for word in ("", form[0].upper(), form[0] + "s", form[0] + " ", "own", "names")]
    return lines


class Taken(unittest.TestCase):
    def test_all_lines(self):
        lines = good_lines()
        self.assertEqual({line[0] for line in lines}, {form[0] for form in FORMS})
        for line in lines:
            program = Program([0, 0, 0, 0], [[], [line], []])
            self.assertEqual(program.code(1), [line])
            self.assertEqual(program.line(1, 0), line)

    def test_all_numbers_of_names_and_threads(self):
        for names in range(1, 5):
            for many in range(1, 4):
                values = [10 * k for k in range(names)]
                codes = [[("write", names - 1, ("number", thread))] * thread for thread in range(many)]
                program = Program(values, codes)
                self.assertEqual((program.many, program.names), (many, names))
                self.assertEqual((type(program.many), type(program.names)), (int, int))
                self.assertEqual(program.first_values(), values)
                self.assertEqual([program.code(thread) for thread in range(many)], codes)

    def test_all_numbers_of_lines(self):
        for size in range(9):
            for thread in range(3):
                codes = [[], [], []]
                codes[thread] = [("set", 0, ("number", k), "+", ("own", 0)) for k in range(size)]
                program = Program([0], codes)
                self.assertEqual([program.code(k) for k in range(3)], codes)

    def test_first_values(self):
        for values in ([0], [-1], [BIG], [-BIG, BIG], [3, 1, 2, 1]):
            told = Program(values, [[]]).first_values()
            self.assertEqual(told, values)
            self.assertIs(type(told), list)

    def test_own_thread_and_thread_0(self):
        for word in ("fork", "wait"):
            for thread in range(3):
                codes = [[], [], []]
                codes[thread] = [(word, 0), (word, 1), (word, 2)]
                self.assertEqual(Program([0], codes).code(thread), codes[thread])

    def test_line(self):
        codes = [[("take", 0), ("give", 0)], [], [("fork", k % 3) for k in range(8)]]
        program = Program([0], codes)
        for thread in range(3):
            self.assertIs(type(program.code(thread)), list)
            for number in range(-12, 12):
                wanted = codes[thread][number] if 0 <= number < len(codes[thread]) else None
                self.assertEqual(program.line(thread, number), wanted, (thread, number))
            for number in (BIG, -BIG):
                self.assertIsNone(program.line(thread, number))


class Refused(unittest.TestCase):
    def refused(self, values, codes):
        try:
            Program(values, codes)
        except errors.NoProgram as e:
            self.assertIsInstance(e, errors.RaceError)
            self.assertIsInstance(e, ValueError)
            for name in ("NoRow", "NoWeaving", "NoRace", "NoMove", "TooGreat", "NoText", "NoWords"):
                self.assertNotIsInstance(e, getattr(errors, name))
        else:
            self.fail(f"taken: {values!r} {codes!r}")

    def test_numbers_of_first_values(self):
        for size in (0, 5, 6, 300):
            self.refused([0] * size, [[]])

    def test_numbers_of_threads(self):
        for many in (0, 4, 5, 300):
            self.refused([0], [[] for thread in range(many)])

    def test_numbers_of_lines(self):
        for many in range(1, 4):
            for thread in range(many):
                for size in (9, 10, 300):
                    codes = [[("take", 0)] * 8 for other in range(many)]
                    Program([0], codes)
                    codes[thread] = [("take", 0)] * size
                    self.refused([0], codes)

    def test_bad_lines(self):
        lines = bad_lines()
        self.assertGreater(len(lines), 150)
        for line in lines:
            self.refused([0, 0, 0, 0], [[line], [], []])
            self.refused([0, 0, 0, 0], [[], [], [("take", 0), line]])

    def test_at_any_place_of_any_thread(self):
        fillings = [("take", 0), ("skip", ("own", 0), "<", ("number", 1), 8), ("fork", 1), ("read", 0, 3)]
        for line in ((), ("jump", 0), ("give", 3), ("read", 0, 4), ("write", 0, ("own", 3)), ("wait", 0, 0)):
            for thread in range(3):
                for place in range(8):
                    codes = [fillings * 2 for other in range(3)]
                    codes[thread][place] = line
                    self.refused([0, 0, 0, 0], codes)

    def test_names_and_threads_that_are_not_there(self):
        for names in range(1, 5):
            for name in range(-1, 6):
                for line in (("read", 0, name), ("write", name, ("number", 0))):
                    if 0 <= name < names:
                        self.assertEqual(Program([0] * names, [[line]]).line(0, 0), line)
                    else:
                        self.refused([0] * names, [[line]])
        for many in range(1, 4):
            for other in range(-1, 5):
                for line in (("fork", other), ("wait", other)):
                    codes = [[] for thread in range(many)]
                    codes[-1] = [line]
                    if 0 <= other < many:
                        self.assertEqual(Program([0], codes).line(many - 1, 0), line)
                    else:
                        self.refused([0], codes)

    def test_several_bad_things(self):
        self.refused([], [])
        self.refused([], [[()]])
        self.refused([0] * 5, [[], [("jump",)] * 9, [], []])


class Kept(unittest.TestCase):
    def test_what_is_handed_in_stays_and_may_be_changed(self):
        for values, codes in helper.some_programs(30, 50):
            handed_values, handed_codes = list(values), [list(code) for code in codes]
            program = Program(handed_values, handed_codes)
            self.assertEqual((handed_values, handed_codes), (values, codes))
            handed_values[0] = 77
            handed_values.append(78)
            for code in handed_codes:
                code[:1] = [("jump",), ("jump",)]
            handed_codes.append([()])
            self.is_so(program, values, codes)
            handed_codes.clear()
            handed_values.clear()
            self.is_so(program, values, codes)

    def test_told_lists_are_the_askers_own(self):
        for values, codes in helper.some_programs(31, 50):
            program = Program(values, codes)
            told = [program.first_values()] + [program.code(thread) for thread in range(len(codes))]
            for part in told:
                part.append(None)
                part[0] = 99
            self.is_so(program, values, codes)
            for part in told:
                part.clear()
            self.is_so(program, values, codes)

    def is_so(self, program, values, codes):
        self.assertEqual((program.names, program.many), (len(values), len(codes)))
        self.assertEqual(program.first_values(), values)
        for thread, code in enumerate(codes):
            self.assertEqual(program.code(thread), code)
            self.assertEqual([program.line(thread, number) for number in range(len(code))], code)
            self.assertIsNone(program.line(thread, len(code)))


if __name__ == "__main__":
    unittest.main()
