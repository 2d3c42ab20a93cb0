import itertools
import random
import re
import unittest

import helper
from racewise import errors
from racewise.deeds import Row
from racewise.programs import Program
from racewise.texts import read_program, read_row, show_program, show_row

BIG = helper.BIG
NAMES = ("NoRow", "NoWeaving", "NoRace", "NoProgram", "NoMove", "TooGreat", "NoText", "NoWords")
SIXTY = "1" + "0" * 59
SIXTY_ONE = "1" + "0" * 60

NUMBER = "(0|[1-9][0-9]{0,59})"
SIGNED = "(0|-?[1-9][0-9]{0,59})"
VALUE = f"([abc]|{SIGNED})"
ROW_FORM = f"{NUMBER}(; {NUMBER} (read|write|take|give|fork|wait) {NUMBER})*"
LINE_FORM = "|".join([
    "[abc] = [WXYZ]", f"[WXYZ] = {VALUE}", f"[abc] = {VALUE} [+-] {VALUE}", f"skip {NUMBER} if {VALUE} (==|<) {VALUE}",
    "(take|give) [LMN]", f"(fork|wait) {NUMBER}",
])
PROGRAM_FORM = f"names( {SIGNED})*(\nthread(\n({LINE_FORM}))*)*"

# A line and how it is written.
LINES = [
    (("read", 0, 1), "a = X"), (("read", 2, 0), "c = W"), (("read", 1, 3), "b = Z"), (("read", 0, 2), "a = Y"),
    (("write", 1, ("own", 0)), "X = a"), (("write", 1, ("number", -5)), "X = -5"),
    (("write", 0, ("own", 2)), "W = c"), (("write", 3, ("number", 0)), "Z = 0"), (("write", 2, ("own", 1)), "Y = b"),
    (("write", 0, ("number", BIG)), f"W = {BIG}"), (("write", 0, ("number", -BIG)), f"W = -{BIG}"),
    (("set", 0, ("own", 1), "+", ("number", 1)), "a = b + 1"),
    (("set", 0, ("own", 1), "-", ("number", 1)), "a = b - 1"),
    (("set", 1, ("number", -7), "-", ("number", -8)), "b = -7 - -8"),
    (("set", 2, ("number", 10), "+", ("own", 0)), "c = 10 + a"), (("set", 0, ("own", 2), "-", ("own", 2)), "a = c - c"),
    (("set", 0, ("number", BIG), "+", ("number", -BIG)), f"a = {BIG} + -{BIG}"),
    (("skip", ("own", 0), "<", ("number", 3), 2), "skip 2 if a < 3"),
    (("skip", ("own", 0), "<", ("number", -3), 0), "skip 0 if a < -3"),
    (("skip", ("number", 5), "==", ("own", 1), 8), "skip 8 if 5 == b"),
    (("skip", ("number", -BIG), "<", ("number", BIG), 1), f"skip 1 if -{BIG} < {BIG}"),
    (("skip", ("own", 2), "==", ("own", 0), 7), "skip 7 if c == a"),
    (("take", 0), "take L"), (("take", 1), "take M"), (("take", 2), "take N"),
    (("give", 0), "give L"), (("give", 1), "give M"), (("give", 2), "give N"),
    (("fork", 0), "fork 0"), (("fork", 1), "fork 1"), (("fork", 2), "fork 2"),
    (("wait", 0), "wait 0"), (("wait", 1), "wait 1"), (("wait", 2), "wait 2"),
]

# Texts that stand in the place of a line and are none.
NO_LINES = [
    "", " ", "a", "X", "a = b", "X = Y", "a = 5", "a = -5", "a = L", "L = a", "a = A", "A = a", "d = X", "a = V",
    "V = a",
    "w = 1", "x = a", "a = x", "X = d", "X = A", "X = W", "X = L", "5 = X", "5 = a", "-5 = X", "a == X", "a =X", "a= X",
    "a=X", "a = X ", " a = X", "a  = X", "a =  X", "a\t= X", "a =\tX", "a\u00a0= X", "a = X\r", "\ta = X", "a = X\t",
    "X = 01", "X = -0", "X = -01", "X = 00", "X = +5", "X = --5", "X = -", "X = 5.", "X = 1_0", "X = 0x1", "X = 1e3",
    "X = \u0663", "X = \u00b2", "X = \uff11", f"X = {SIXTY_ONE}", f"X = -{SIXTY_ONE}", "X = - 5", "X = 5 ", "X = a ",
    "X = a + 1", "X = a b", "aa = X", "a = XX", "ab = X", "X = ab", "XY = 1", "= X", "a =", "X =", "= ", "= 5",
    "a = b +", "a = b + ", "a = + 1", "a = b 1", "a = b + 1 + 1", "a = b * 1", "a = b +1", "a = b+ 1", "a = b+1",
    "a = b - -0", "a = b + 01", "a = b -1", "a = X + 1", "a = b + X", "a = d + 1", "a = b + d", "X = b + 1",
    "5 = b + 1",
    "a == b + 1", "a = b ++ 1", "a = b -- 1", "a =  b + 1", "a = b  + 1", "a = b +  1", "a = b = 1", "a = b < 1",
    "a + b = 1", f"a = {SIXTY_ONE} + 1", f"a = 1 - {SIXTY_ONE}", "A = b + 1", "a = B + 1",
    "skip", "skip 2", "skip 2 if", "skip 2 if a", "skip 2 if a <", "skip if a < 3", "skip 2 a < 3", "skip 2 if a < 3 4",
    "skip 2 if a > 3", "skip 2 if a <= 3", "skip 2 if a = 3", "skip 2 if a != 3", "skip 2 if a + 3",
    "skip 2 when a < 3",
    "skip -1 if a < 3", "skip -0 if a < 3", "skip 02 if a < 3", "skip 00 if a < 3", "skip a if a < 3",
    "skip X if a < 3",
    "skip +2 if a < 3", f"skip {SIXTY_ONE} if a < 3", "skip 2 if X < 3", "skip 2 if a < X", "skip 2 if a < -0",
    "skip 2 if a < 03", "skip 2 if d == 3", "skip 2 if a=3", "skip 2 if a <3", "skip 2 if a< 3", "skip  2 if a < 3",
    "skip 2  if a < 3", "skip 2 if  a < 3", "skip 2 if a  < 3", "skip 2 if a <  3", "skip 2 if a < 3 ",
    " skip 2 if a < 3",
    "Skip 2 if a < 3", "skip 2 If a < 3", "SKIP 2 IF a < 3", f"skip 2 if a < {SIXTY_ONE}", "skip 2 if A < 3",
    "take", "take ", "take K", "take O", "take l", "take m", "take 0", "take a", "take X", "take L M", "take L ",
    " take L",
    "take  L", "take\tL", "Take L", "TAKE L", "takeL", "take LL", "take -1", "L take", "take L\r",
    "give", "give ", "give K", "give l", "give 1", "give a", "give L L", "give  L", "Give L", "give L ", "give X",
    "fork", "fork ", "fork -1", "fork -0", "fork 01", "fork 00", "fork +1", "fork a", "fork X", "fork L", "fork 1 2",
    "fork  1", "fork 1 ", "Fork 1", "fork1", f"fork {SIXTY_ONE}", "fork \u0661", "1 fork", "fork 1.",
    "wait", "wait ", "wait -1", "wait -0", "wait 01", "wait +1", "wait a", "wait X", "wait L", "wait 1 1", "wait  1",
    "wait 1 ", "Wait 1", f"wait {SIXTY_ONE}", "wait \u00b9", "read 0 0", "write 0 5", "set 0 1 + 1", "read a X",
    "names", "names 0", "thread ", " thread", "thread 1", "threads", "Thread", "THREAD", "thread\r", "thread thread",
    "else", "jump 1", "yield", "#", "a = X # so", "a = X;", "(", "a , X", "\x0b", "\x00", "\u2028", "a = X\x0b",
    "a = X\x0c",
]


class Questions(unittest.TestCase):
    def refused(self, kind, ask, text):
        try:
            ask(text)
        except kind as e:
            self.assertIsInstance(e, errors.RaceError)
            self.assertIsInstance(e, ValueError)
            for name in NAMES:
                if getattr(errors, name) is not kind:
                    self.assertNotIsInstance(e, getattr(errors, name), text)
        except Exception as e:
            self.fail(f"{e!r}: {text!r}")
        else:
            self.fail(f"read: {text!r}")

    def is_of_form(self, form, ask, text):
        """NoText is told just where the text is not of the form."""
        try:
            ask(text)
            of_form = True
        except errors.NoText:
            of_form = False
        except (errors.NoRow, errors.NoProgram):
            of_form = True
        self.assertIs(of_form, re.fullmatch(form, text) is not None, text)

    def no_text(self, ask, *texts):
        for text in texts:
            self.refused(errors.NoText, ask, text)


class Rows(Questions):
    def is_written(self, many, deeds, text):
        told = show_row(Row(many, deeds))
        self.assertEqual(told, text)
        self.assertIs(type(told), str)
        row = read_row(text)
        self.assertIs(type(row), Row)
        self.assertEqual((row.many, row.size, row.deeds()), (many, len(deeds), deeds))
        self.assertEqual(repr(row.deeds()), repr(deeds))

    def test_by_hand(self):
        self.is_written(2, [(0, "fork", 1), (1, "write", 0), (0, "read", 0)], "2; 0 fork 1; 1 write 0; 0 read 0")
        self.is_written(
            3, [(0, "take", 12), (0, "fork", 2), (2, "read", 7), (0, "give", 12), (0, "wait", 2)],
            "3; 0 take 12; 0 fork 2; 2 read 7; 0 give 12; 0 wait 2",
        )

    def test_without_deeds(self):
        for many in range(1, 7):
            self.is_written(many, [], str(many))

    def test_great_numbers(self):
        self.is_written(1, [(0, "read", BIG), (0, "take", 10 ** 59)], f"1; 0 read {BIG}; 0 take {SIXTY}")
        self.refused(errors.NoText, read_row, f"1; 0 read {SIXTY_ONE}")
        self.refused(errors.NoText, read_row, f"1; {SIXTY_ONE} read 0")
        self.refused(errors.NoText, read_row, SIXTY_ONE)
        self.refused(errors.NoText, read_row, "0" * 60)
        self.refused(errors.NoRow, read_row, SIXTY)
        self.refused(errors.NoRow, read_row, f"1; {SIXTY} read 0")
        self.refused(errors.NoRow, read_row, f"1; 0 wait {SIXTY}")

    def test_the_longest_rows(self):
        self.is_written(1, [(0, "read", 0)] * 60, "1" + "; 0 read 0" * 60)
        self.refused(errors.NoRow, read_row, "1" + "; 0 read 0" * 61)
        self.refused(errors.NoText, read_row, "1" + "; 0 read 0" * 60 + "; 0 read")

    def test_numbers_that_are_none(self):
        for bad in (
            "", "00", "01", "007", "-0", "-1", "+1", "1.", ".1", "1.0", "1e0", "1_0", "0x1", "0b1", "one", "a", "X",
            "-",
            "+", "--1", "1-", "\u0661", "\u00b2", "\u00bd", "\uff11", "\u0967", "1\u0661", "1\n", "\n1", "1\t", "\t1",
            "1\r", "\u00a01", "1\u2003", "1,", ",1", "1;", "'1'", "True", "None", "1\x00", "\x0b1", "1\x0c", "1\x1f",
        ):
            self.no_text(
                read_row, bad, f"{bad}; 0 read 0", f"1; {bad} read 0", f"1; 0 read {bad}", f"1; 0 read 0; 0 take {bad}",
            )

    def test_words_that_are_none(self):
        for bad in (
            "", "Read", "READ", "reads", "rea", "read\t", "read\n", "\u0280ead", "set", "skip", "-", "0", "lock",
            "readwrite",
            "join", "wri te", "read,", "r", "None",
        ):
            self.no_text(read_row, f"1; 0 {bad} 0", f"2; 0 fork 1; 1 {bad} 0", f"1; 0 {bad} 0; 0 read 0")

    def test_blanks_and_semicolons(self):
        self.no_text(
            read_row, "", " ", ";", "; ", " 1", "1 ", "1;", "1; ", "1;  ", "1 ;", "1; ; 0 read 0", "; 0 read 0",
            " ; 0 read 0",
            "1;0 read 0", "1 ; 0 read 0", "1;  0 read 0", "1; 0 read 0 ", " 1; 0 read 0", "1; 0 read 0;",
            "1; 0 read 0; ",
            "1; 0  read 0", "1; 0 read  0", "1; 0\tread 0", "1; 0 read\t0", "1;\t0 read 0", "1;\n0 read 0",
            "1\n; 0 read 0",
            "1; 0 read 0\n", "\n1; 0 read 0", "1; 0 read 0\r\n", "1; 0\u00a0read 0", "1;\u00a00 read 0", "1; 0read 0",
            "1; 0 read0", "1; 0read0", "1, 0 read 0", "1: 0 read 0", "1 0 read 0", "1; 0 read 0, 0 read 0",
            "1; 0 read 0 0 read 0", "1; 0 read 0;0 read 0", "1; 0 read 0 ; 0 read 0", "1; 0 read 0;  0 read 0",
            "1;; 0 read 0",
            "\n", "1\n", "\t",
        )

    def test_parts_too_many_or_too_few(self):
        self.no_text(
            read_row, "1 1", "1; 0", "1; 0 read", "1; read 0", "1; 0 read 0 0", "1; 0 0 read 0", "1; 0 read read 0",
            "1; 0 read 0; 0", "1; 0 read; 0 read 0", "1; read", "1; 0 0", "1 2; 0 read 0", "1; 1", "2; 0 fork 1 1",
        )

    def test_of_the_form_but_no_row(self):
        for text in (
            "0", "7", "10", "0; 0 read 0", "7; 0 read 0", "60", "1; 1 read 0", "2; 1 read 0", "1; 0 fork 1",
            "1; 0 fork 0",
            "1; 0 wait 0", "1; 0 wait 1", "2; 0 wait 1", "1; 0 give 0", "1; 0 take 0; 0 take 0",
            "2; 0 fork 1; 0 wait 1; 1 read 0", "2; 0 fork 1; 0 fork 1", "2; 0 fork 2", "7; 6 write 5",
        ):
            self.refused(errors.NoRow, read_row, text)

    def test_both_wrong(self):
        self.no_text(
            read_row, "7; 0 read", "0 ", "07", "2; 1 read 0; 0 read -1", "1; 1 read 0\n", "1; 0 give 0; 0 give",
            "1; 0 fork 9; 0 bark 0", "7; 0 fork 01", "0; ", "1" + "; 0 read 0" * 61 + ";",
            "1" + "; 0 read 0" * 61 + "; 0 Read 0",
        )

    def test_many_rows(self):
        for many, deeds in helper.some_rows(80, 200):
            text = "; ".join([str(many)] + [" ".join(str(part) for part in deed) for deed in deeds])
            self.is_written(many, deeds, text)

    def test_all_short_texts_that_are_read_are_shown_again(self):
        pieces = ["1", "0", "; ", ";", " ", " read ", " fork "]
        read = 0
        for size in range(1, 7):
            for drawn in itertools.product(pieces, repeat=size):
                text = "".join(drawn)
                self.is_of_form(ROW_FORM, read_row, text)
                try:
                    row = read_row(text)
                except (errors.NoText, errors.NoRow):
                    continue
                read += 1
                self.assertEqual(show_row(row), text)
        self.assertGreater(read, 5)

    def test_spoilt_texts(self):
        source = random.Random(81)
        signs = " ;0123456789-readwitkgvfo\n\tX"
        seen = {"NoText": 0, "NoRow": 0, "": 0}
        for many, deeds in helper.some_rows(81, 400, (0, 6)):
            text = spoilt(source, signs, show_row(Row(many, deeds)))
            try:
                self.assertEqual(show_row(read_row(text)), text)
                seen[""] += 1
            except (errors.NoText, errors.NoRow) as e:
                seen[e.__class__.__name__] += 1
            self.is_of_form(ROW_FORM, read_row, text)
        for kind in seen:
            self.assertGreater(seen[kind], 10, seen)


def spoilt(source, signs, text):
    """The text with a sign more, fewer or another one."""
    place = source.randint(0, len(text))
    return text[:place] + source.choice(["", source.choice(signs)]) + text[place + source.randint(0, 1):]


class Lines(Questions):
    def text_of(self, *lines):
        return "\n".join(("names 1 2 3 4", "thread") + lines + ("thread", "thread"))

    def test_each_kind_of_line(self):
        for line, text in LINES:
            program = Program([1, 2, 3, 4], [[line], [], []])
            self.assertEqual(show_program(program), self.text_of(text))
            told = read_program(self.text_of(text))
            self.assertEqual(repr(told.code(0)), repr([line]), text)
            self.assertEqual((told.many, told.names, told.first_values()), (3, 4, [1, 2, 3, 4]))

    def test_lines_that_are_none(self):
        for text in NO_LINES:
            self.no_text(read_program, self.text_of(text), self.text_of(text, "take L"), self.text_of("take L", text))
            self.no_text(read_program, "names 1 2 3 4\nthread\n" + text)

    def test_of_the_form_but_no_line(self):
        for text in (
            "fork 3", "fork 9", "wait 3", "wait 10", f"fork {SIXTY}", f"wait {BIG}", "skip 9 if a < 3",
            "skip 10 if 1 == 1",
            f"skip {BIG} if a < 3",
        ):
            self.refused(errors.NoProgram, read_program, self.text_of(text))
            self.refused(errors.NoProgram, read_program, self.text_of("take L", text))
            # Both wrong.
            self.no_text(read_program, self.text_of(text, "take K"), self.text_of("a = b", text))

    def test_names_that_the_program_does_not_have(self):
        letters = "WXYZ"
        for names in range(1, 5):
            for number, letter in enumerate(letters):
                read = (("read", 0, number), f"a = {letter}")
                write = (("write", number, ("own", 0)), f"{letter} = a")
                for line, text in (read, write):
                    text = " ".join(["names"] + ["0"] * names) + "\nthread\n" + text
                    if number < names:
                        self.assertEqual(read_program(text).code(0), [line])
                        self.assertEqual(show_program(read_program(text)), text)
                    else:
                        self.refused(errors.NoProgram, read_program, text)
                        self.no_text(read_program, text + "\n", text + "\ntake K")

    def test_threads_that_the_program_does_not_have(self):
        for many in range(1, 4):
            for number in range(4):
                for word in ("fork", "wait"):
                    text = f"names 0\nthread\n{word} {number}" + "\nthread" * (many - 1)
                    if number < many:
                        self.assertEqual(read_program(text).code(0), [(word, number)])
                    else:
                        self.refused(errors.NoProgram, read_program, text)


class Programs(Questions):
    def test_by_hand(self):
        text = "\n".join([
            "names 0 -7", "thread", "fork 1", "a = X", "W = a", "wait 1", "thread", "skip 1 if a == 0", "take L",
            "W = -1",
        ])
        program = Program([0, -7], [
            [("fork", 1), ("read", 0, 1), ("write", 0, ("own", 0)), ("wait", 1)],
            [("skip", ("own", 0), "==", ("number", 0), 1), ("take", 0), ("write", 0, ("number", -1))],
        ])
        self.assertEqual(show_program(program), text)
        self.assertIs(type(show_program(program)), str)
        told = read_program(text)
        self.assertIs(type(told), Program)
        self.assertEqual((told.many, told.names, told.first_values()), (2, 2, [0, -7]))
        self.assertEqual([told.code(0), told.code(1)], [program.code(0), program.code(1)])

    def test_without_lines(self):
        for many in range(1, 4):
            text = "names 5" + "\nthread" * many
            self.assertEqual(show_program(Program([5], [[]] * many)), text)
            told = read_program(text)
            self.assertEqual((told.many, [told.code(thread) for thread in range(many)]), (many, [[]] * many))

    def test_first_values(self):
        for values in ([0], [-1, 1], [BIG, -BIG, 0], [3, 2, 1, 10 ** 59]):
            text = " ".join(["names"] + [str(value) for value in values]) + "\nthread"
            self.assertEqual(read_program(text).first_values(), values)
            self.assertEqual(show_program(Program(values, [[]])), text)

    def test_how_many_there_are(self):
        for text in (
            "names", "names 0", "names\nthread", "names 1 2 3 4", "names 1 2 3 4 5\nthread", "names 1 2 3 4 5",
            "names 0" + "\nthread" * 4, "names 0" + "\nthread" * 30, "names\nthread\nW = 1",
            "names" + " 0" * 100 + "\nthread",
            "names 0\nthread" + "\ntake L" * 9, "names 0\nthread\nthread" + "\ntake L" * 9,
            "names 0\nthread" + "\na = W" * 40,
        ):
            self.refused(errors.NoProgram, read_program, text)
            self.no_text(read_program, text + "\n", text + " ", text + "\n\nthread", text + "\nthread\na = b")
        self.assertEqual(len(read_program("names 0\nthread" + "\ntake L" * 8).code(0)), 8)

    def test_first_values_that_are_none(self):
        for bad in (
            "", "00", "01", "-0", "-01", "-00", "+1", "-", "--1", "1-", "a", "W", "X", "1.", "1_0", "\u0661", "\u00b2",
            "-\u0661", SIXTY_ONE, "-" + SIXTY_ONE, "1\t", "1,", "1\r", "0x1", "- 1", "1\u00a0", "\u22121", "1\x0b",
            "1\x0c",
        ):
            self.no_text(read_program, f"names {bad}\nthread", f"names 1 {bad}\nthread", f"names {bad} 1\nthread")
        for text in ("names " + SIXTY + " -" + SIXTY, "names 0 -1"):
            self.assertEqual(show_program(read_program(text + "\nthread")), text + "\nthread")

    def test_other_forms(self):
        self.no_text(
            read_program, "", " ", "\n", "\n\n", "thread", "thread\nnames 0", "name 0\nthread", "Names 0\nthread",
            "NAMES 0\nthread", "names: 0\nthread", " names 0\nthread", "names  0\nthread", "names 0 \nthread",
            "names\t0\nthread", "names0\nthread", "0\nthread", "names 0, 1\nthread", "names 0\n\nthread",
            "names 0\nthread\n",
            "names 0\n", "names\n", "\nnames 0\nthread", "names 0\nthread\n\ntake L", "names 0\nthread\ntake L\n",
            "names 0\r\nthread", "names 0\rthread", "names 0\nthread\r", "names 0\x0bthread", "names 0\u2028thread",
            "names 0 thread", "names 0\nthread take L", "names 0\nthread; take L", "names 0; thread", "names 0\ntake L",
            "names 0\ntake L\nthread", "names 0\na = W", "names 0\nthread\nnames 0", "names 0\nnames 0\nthread",
            "names 0\nthread 0\ntake L", "names 0\n thread", "names 0\nthread ", "names 0\nTHREAD", "names 0\nthreads",
            "names 0\nthread\ntake L\n ", "names 0\nthread\n take L", "names 0\nthread\ntake L ", "names 0\x0cthread",
            "names 0\x85thread", "names 0\x1cthread", "names 0\u2029thread",
        )

    def test_many_programs(self):
        for values, codes in helper.some_programs(82, 400) + helper.some_guarded_programs(83, 40, 8):
            program = Program(values, codes)
            text = show_program(program)
            told = read_program(text)
            self.assertEqual((told.many, told.names), (len(codes), len(values)))
            self.assertEqual(repr(told.first_values()), repr(values))
            self.assertEqual(repr([told.code(thread) for thread in range(len(codes))]), repr(codes))
            self.assertEqual(show_program(told), text)
            self.assertEqual(text, slow_show(values, codes))

    def test_spoilt_texts(self):
        source = random.Random(84)
        signs = " 0123456789-+=<abcdWXYZVLMNKifskptaegivorwnmhd\n\t"
        seen = {"NoText": 0, "NoProgram": 0, "": 0}
        for values, codes in helper.some_programs(84, 1500, 4):
            text = spoilt(source, signs, show_program(Program(values, codes)))
            try:
                self.assertEqual(show_program(read_program(text)), text)
                seen[""] += 1
            except (errors.NoText, errors.NoProgram) as e:
                seen[e.__class__.__name__] += 1
            self.is_of_form(PROGRAM_FORM, read_program, text)
        for kind in seen:
            self.assertGreater(seen[kind], 4, seen)

    def test_all_short_lines(self):
        stock = ["a", "b", "X", "Y", "L", "=", "+", "-", "<", "1", "-5", "take", "fork", "thread"]
        read = []
        for size in (1, 2, 3):
            for words in itertools.product(stock, repeat=size):
                line = " ".join(words)
                text = "names 0 0 0 0\nthread\n" + line + "\nthread"
                self.is_of_form(PROGRAM_FORM, read_program, text)
                try:
                    told = read_program(text)
                except errors.NoText:
                    continue
                read.append(line)
                self.assertEqual(show_program(told), text)
        wanted = ["take L", "fork 1", "thread"]
        wanted += [f"{own} = {name}" for own in "ab" for name in "XY"]
        wanted += [f"{name} = {value}" for name in "XY" for value in ("a", "b", "1", "-5")]
        self.assertEqual(sorted(read), sorted(wanted))

    def test_longer_lines(self):
        values = ["a", "d", "X", "1", "-5", "01", "+"]
        for one, sign, other in itertools.product(values, ["+", "-", "*", "=", "<", "==", ">", ""], values):
            for line in (f"b = {one} {sign} {other}", f"X = {one} {sign} {other}", f"skip 2 if {one} {sign} {other}"):
                self.is_of_form(PROGRAM_FORM, read_program, "names 0 0\nthread\n" + line)


def slow_show(values, codes):
    def value(pair):
        return "abc"[pair[1]] if pair[0] == "own" else "%d" % pair[1]

    rows = ["names " + " ".join("%d" % value for value in values)]
    for code in codes:
        rows.append("thread")
        for word, *parts in code:
            rows.append({
                "read": lambda: "%s = %s" % ("abc"[parts[0]], "WXYZ"[parts[1]]),
                "write": lambda: "%s = %s" % ("WXYZ"[parts[0]], value(parts[1])),
                "set": lambda: "%s = %s %s %s" % ("abc"[parts[0]], value(parts[1]), parts[2], value(parts[3])),
                "skip": lambda: "skip %d if %s %s %s" % (parts[3], value(parts[0]), parts[1], value(parts[2])),
                "take": lambda: "take %s" % "LMN"[parts[0]],
                "give": lambda: "give %s" % "LMN"[parts[0]],
                "fork": lambda: "fork %d" % parts[0],
                "wait": lambda: "wait %d" % parts[0],
            }[word]())
    return "\n".join(rows)


if __name__ == "__main__":
    unittest.main()
