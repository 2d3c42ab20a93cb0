import random
import unittest

import helper
from racewise import errors
from racewise.deeds import Row
from racewise.desk import Desk, words_of_clash
from racewise.looks import clash
from racewise.programs import Program
from racewise.texts import read_program, show_program, show_row

BIG = helper.BIG
NAMES = ("NoRow", "NoWeaving", "NoRace", "NoProgram", "NoMove", "TooGreat", "NoText", "NoWords")
NOTHING = "a = a + 0"
ASKS = ("may", "values", "row", "races", "free", "ends", "alike")

SMALL = "\n".join([
    "names 0 7", "thread", "fork 1", "take L", "a = X", "W = a", "give L", "wait 1",
    "thread", "b = b + 1", "take L", "W = b", "give L",
])
RACING = "\n".join([
    "names 0 0", "thread", "fork 1", "W = 1", "a = X", "wait 1", "thread", "X = 1", "skip 0 if a == a", "a = W",
])
# The program is free, yet has stuck ends.
CROSSED = "\n".join([
    "names 0", "thread", "fork 1", "take L", "take M", "give M", "give L", "thread", "take M", "take L", "give L",
    "give M",
])


def of_lines(*codes):
    rows = ["names 0"]
    for code in codes:
        rows += ["thread"] + list(code)
    return "\n".join(rows)


class Questions(unittest.TestCase):
    def refused(self, kind, ask, *parts):
        try:
            ask(*parts)
        except kind as e:
            self.assertIsInstance(e, errors.RaceError)
            self.assertIsInstance(e, ValueError)
            for name in NAMES:
                if getattr(errors, name) is not kind:
                    self.assertNotIsInstance(e, getattr(errors, name), parts)
        except Exception as e:
            self.fail(f"{e!r}: {parts!r}")
        else:
            self.fail(f"not refused: {parts!r}")

    def talk(self, desk, *pairs):
        for row, wanted in pairs:
            told = desk.say(row)
            self.assertEqual(told, wanted, row)
            self.assertIs(type(told), str)

    def keeps(self, desk, kind, row):
        """What is refused changes nothing that the desk tells of where it stands."""
        before = [desk.say(ask) for ask in ("may", "values", "row", "races")]
        self.refused(kind, desk.say, row)
        self.assertEqual([desk.say(ask) for ask in ("may", "values", "row", "races")], before)


class Talks(Questions):
    def test_at_first(self):
        self.talk(
            Desk(SMALL), ("may", "0"), ("values", "0 7"), ("row", "2"), ("races", "-"), ("free", "yes"),
            ("ends", "2 0"), ("alike", "yes"),
        )

    def test_a_whole_walk(self):
        self.talk(
            Desk(SMALL), ("move 0", "fork 1"), ("may", "0 1"), ("move 1", "-"), ("may", "0 1"), ("move 1", "take 0"),
            ("may", "1"), ("values", "0 7"), ("move 1", "write 0"), ("values", "1 7"), ("move 1", "give 0"), ("may",
            "0"),
            ("move 0", "take 0"), ("move 0", "read 1"), ("move 0", "write 0"), ("values", "7 7"), ("move 0", "give 0"),
            ("row", "2; 0 fork 1; 1 take 0; 1 write 0; 1 give 0; 0 take 0; 0 read 1; 0 write 0; 0 give 0"),
            ("races", "-"), ("may", "0"), ("move 0", "wait 1"), ("may", "-"), ("values", "7 7"),
        )

    def test_races(self):
        desk = Desk(RACING)
        self.talk(
            desk, ("races", "-"), ("move 0", "fork 1"), ("move 0", "write 0"), ("races", "-"), ("move 1", "write 1"),
            ("races", "-"), ("move 0", "read 1"), ("races", "2-3"), ("move 1", "-"), ("races", "2-3"), ("move 1",
            "read 0"),
            ("races", "1-4 2-3"), ("row", "2; 0 fork 1; 0 write 0; 1 write 1; 0 read 1; 1 read 0"),
            ("move 0", "wait 1"), ("races", "1-4 2-3"), ("may", "-"), ("free", clash_words(RACING)),
        )

    def test_races_with_places_of_two_figures(self):
        # Eight reads of thread 0 behind its fork and two writes of thread 1 behind those.
        desk = Desk(of_lines(["fork 1"] + ["a = W"] * 7, ["W = 1", "W = 2"]))
        for row in ["move 0"] * 8 + ["move 1"] * 2:
            desk.say(row)
        wanted = " ".join(f"{one}-{other}" for one in range(1, 8) for other in (8, 9))
        self.talk(desk, ("races", wanted))
        codes = [["fork 1", "fork 2"] + ["a = W"] * 6, ["take L", NOTHING], ["take M", "give M", "W = 1"]]
        desk = Desk(of_lines(*codes))
        for row in ["move 0"] * 8 + ["move 1"] * 2 + ["move 2"] * 3:
            desk.say(row)
        self.talk(desk, ("races", " ".join(f"{one}-11" for one in range(2, 8))))

    def test_moves_of_each_kind(self):
        text = "\n".join([
            "names 0 0 0 0", "thread", "take N", "give N", "b = Z", "Y = 4", "fork 2", "skip 0 if a < 1", "c = 1 - 2",
            "wait 2", "thread", "thread",
        ])
        wanted = ["take 2", "give 2", "read 3", "write 2", "fork 2", "-", "-", "wait 2"]
        self.talk(Desk(text), *[("move 0", words) for words in wanted])

    def test_values(self):
        self.talk(Desk("names 5\nthread"), ("values", "5"), ("may", "-"), ("row", "1"))
        desk = Desk(f"names -3 {BIG} 0 -{BIG}\nthread\na = X\na = a + a\nX = a")
        self.talk(desk, ("values", f"-3 {BIG} 0 -{BIG}"), ("move 0", "read 1"), ("move 0", "-"), ("move 0", "write 1"))
        # Of more figures than may be handed in.
        self.talk(desk, ("values", f"-3 {2 * BIG} 0 -{BIG}"))

    def test_again(self):
        desk = Desk(SMALL)
        before = [desk.say(ask) for ask in ASKS]
        self.talk(
            desk, ("again", "ok"), ("move 0", "fork 1"), ("move 0", "take 0"), ("move 0", "read 1"),
            ("move 0", "write 0"), ("values", "7 7"), ("row", "2; 0 fork 1; 0 take 0; 0 read 1; 0 write 0"),
            ("again", "ok"),
        )
        self.assertEqual([desk.say(ask) for ask in ASKS], before)
        self.talk(desk, ("row", "2"), ("may", "0"), ("move 0", "fork 1"), ("row", "2; 0 fork 1"), ("again", "ok"))
        self.talk(desk, ("again", "ok"))
        self.assertEqual([desk.say(ask) for ask in ASKS], before)

    def test_free_ends_and_alike_hang_on_no_moves(self):
        for text in (SMALL, RACING, CROSSED):
            desk = Desk(text)
            before = [desk.say(ask) for ask in ("free", "ends", "alike")]
            while desk.say("may") != "-":
                desk.say("move " + desk.say("may").split(" ")[-1])
                self.assertEqual([desk.say(ask) for ask in ("free", "ends", "alike")], before)

    def test_asking_changes_nothing(self):
        desk = Desk(RACING)
        desk.say("move 0")
        desk.say("move 1")
        before = [desk.say(ask) for ask in ASKS]
        for ask in ASKS:
            desk.say(ask)
            self.assertEqual([desk.say(again) for again in ASKS], before)

    def test_two_desks(self):
        one = Desk(SMALL)
        other = Desk(SMALL)
        third = Desk(RACING)
        self.talk(one, ("move 0", "fork 1"), ("move 1", "-"))
        self.talk(other, ("row", "2"), ("may", "0"))
        self.talk(third, ("move 0", "fork 1"), ("move 0", "write 0"), ("values", "1 0"))
        self.talk(other, ("move 0", "fork 1"), ("move 0", "take 0"))
        self.talk(one, ("again", "ok"), ("row", "2"))
        self.talk(other, ("row", "2; 0 fork 1; 0 take 0"), ("values", "0 7"))
        self.talk(third, ("row", "2; 0 fork 1; 0 write 0"))


def clash_words(text):
    schedule, one, other = clash(read_program(text))
    return " ".join(["no"] + [str(part) for part in schedule + [one, other]])


class Looking(Questions):
    def test_free(self):
        self.talk(Desk(of_lines(["fork 1", "W = 1"], ["W = 2"])), ("free", "no 0 0 1"), ("free", "no 0 0 1"))
        self.talk(Desk(of_lines(["fork 1"], ["fork 2", "W = 2"], ["b = W"])), ("free", "no 0 1 1 2"))
        self.talk(Desk(of_lines([])), ("free", "yes"))
        self.talk(Desk(CROSSED), ("free", "yes"))

    def test_a_clash_whose_schedule_is_empty(self):
        # At first thread 0 alone is awake, so no program has such a clash; only the words can be asked for.
        self.assertEqual(words_of_clash(([], 0, 1)), "no 0 1")
        self.assertEqual(words_of_clash(([], 1, 2)), "no 1 2")
        self.assertEqual(words_of_clash(([0, 1], 0, 2)), "no 0 1 0 2")
        self.assertEqual(words_of_clash(None), "yes")

    def test_ends(self):
        self.talk(Desk(CROSSED), ("ends", "1 1"))
        self.talk(Desk(of_lines([])), ("ends", "1 0"))
        self.talk(Desk(of_lines(["give L"])), ("ends", "0 1"))
        # Asleep, not stuck.
        self.talk(Desk(of_lines([], ["give L"])), ("ends", "1 0"))
        self.talk(Desk(of_lines(["fork 1", "W = 1"], ["W = 2"])), ("ends", "2 0"))
        self.talk(Desk(of_lines(["fork 1", "W = 1", "give L"], ["W = 2"])), ("ends", "0 2"))

    def test_alike(self):
        text = "names 0 0\nthread\nfork 1\nW = 1\na = X\nthread\nX = 1\na = W"
        self.talk(Desk(text), ("alike", "no"), ("free", clash_words(text)))
        self.talk(Desk(CROSSED), ("alike", "yes"))
        # Alike although it is not free.
        self.talk(Desk(of_lines(["fork 1", "W = 1"], ["W = 2"])), ("alike", "yes"))

    def test_too_great(self):
        desk = Desk(show_program(Program([0], helper.OF_400)))
        self.talk(desk, ("free", "yes"), ("ends", "1 0"), ("alike", "yes"))
        desk = Desk(show_program(Program([0], helper.OF_401)))
        desk.say("move 0")
        for ask in ("free", "ends", "alike"):
            self.keeps(desk, errors.TooGreat, ask)
        self.talk(desk, ("may", "0 1"), ("move 0", "fork 2"), ("row", "3; 0 fork 1; 0 fork 2"), ("races", "-"))

    def test_too_great_in_the_loose_order_alone(self):
        text = show_program(Program([0], helper.OF_1500_LOOSE))
        self.talk(Desk(text), ("free", clash_words(text)), ("ends", "1 0"), ("alike", "yes"))
        text = show_program(Program([0], helper.OF_1501_LOOSE))
        desk = Desk(text)
        self.talk(desk, ("free", clash_words(text)), ("ends", "1 0"), ("move 0", "fork 1"))
        self.keeps(desk, errors.TooGreat, "alike")


class Refused(Questions):
    def test_rows_that_are_none(self):
        desk = Desk(SMALL)
        for row in (
            "", " ", "  ", "-", "0", "1", "move", "move ", " move", "move 01", "move 00", "move -1", "move -0",
            "move +0",
            "move x", "move a", "move W", "move L", "move 0 ", " move 0", "move  0", "move 0 0", "move 0 1",
            "move\t0", "move 0\n",
            "move\n0", "move 0\t", "move\u00a00", "move0", "Move 0", "MOVE 0", "moves 0", "mov 0", "move 0.",
            "move 0x0",
            "move 1_0", "move \u0660", "move \u00b9", "move \uff10", "move 1" + "0" * 60, "move move",
            "move 0; move 0", "move 0,",
            "again ", " again", "Again", "AGAIN", "again 0", "again again", "agai", "again\n", "\nagain",
            "may ", " may", "May", "MAY", "may 0", "may\n", "may may", "ma", "mays", "may\t", "may\r",
            "values ", "Values", "VALUES", "values 0", "value", "values W", " values", "values\n",
            "row ", "Row", "rows", "row 0", "ROW", " row", "row\n", "races ", "Races", "race", "races 0", "RACES",
            "races\n",
            "free ", "Free", "free 0", "FREE", "freed", "free\n", "ends ", "Ends", "end", "ends 0", "ENDS", "ends\n",
            "alike ", "Alike", "alike 0", "ALIKE", "alik", "alike\n", "may; row", "may row", "ok", "yes", "no",
            "state", "schedule",
            "program", "say", "walked", "answer", "fork 1", "take L", "W = 1", "help", "\x00", "\u043cay", "may\u200b",
        ):
            self.refused(errors.NoWords, desk.say, row)
        self.talk(desk, ("row", "2"), ("values", "0 7"), ("may", "0"), ("move 0", "fork 1"))
        for row in ("move 01", "move -1", "again ", "Again", ""):
            self.keeps(desk, errors.NoWords, row)

    def test_moves_that_may_not_be(self):
        desk = Desk(SMALL)
        for number in (1, 2, 3, 4, 9, 10, 99, 10 ** 59, BIG):
            self.keeps(desk, errors.NoMove, f"move {number}")
        self.talk(desk, ("move 0", "fork 1"), ("move 0", "take 0"), ("move 1", "-"))
        for number in (1, 2, BIG):
            self.keeps(desk, errors.NoMove, f"move {number}")
        self.talk(desk, ("move 0", "read 1"), ("row", "2; 0 fork 1; 0 take 0; 0 read 1"))
        self.keeps(Desk(of_lines([])), errors.NoMove, "move 0")
        # As many of them as are told, each is refused anew.
        for turn in range(3):
            self.keeps(desk, errors.NoMove, "move 1")

    def test_refused_texts(self):
        for text in (
            "", "names 0\nthread\n", "names 0\nthread\na = b", "names -0\nthread", "thread", "names 0 0\ntake L",
            "names 0\nthread\nfork 9\n", "names  0\nthread", "names 0\nthread\nfork 01",
        ):
            self.refused(errors.NoText, Desk, text)
        for text in (
            "names", "names 0", "names 0\nthread\nfork 9", "names 0 0\nthread\na = Z", "names 0" + "\nthread" * 4,
            "names 0 0 0 0 0\nthread", "names 0\nthread" + "\ntake L" * 9, "names 0\nthread\nskip 9 if a < 1",
        ):
            self.refused(errors.NoProgram, Desk, text)


class Agree(Questions):
    def wanted_answers(self, values, codes, schedule):
        slow = helper.SlowRun(values, codes)
        deeds = [deed for deed in [slow.move(thread) for thread in schedule] if deed is not None]
        pairs = ["-".join(str(place) for place in pair) for pair in helper.slow_races(deeds)]
        return {
            "may": " ".join(str(thread) for thread in range(len(codes)) if slow.may(thread)) or "-",
            "values": " ".join(str(value) for value in slow.shared),
            "row": show_row(Row(len(codes), deeds)),
            "races": " ".join(pairs) or "-",
        }

    def test_drawn_talks(self):
        source = random.Random(90)
        for values, codes in helper.some_programs(90, 60) + helper.some_busy_programs(91, 60, 8):
            desk = Desk(show_program(Program(values, codes)))
            schedule = []
            for turn in range(40):
                # Seldom begun again, so that some schedules grow long.
                rows = ["move 0", "move 1", "move 2"] * 9 + ["may", "values", "row", "races", "move 7"] * 3 + ["again"]
                schedule = self.one_turn(desk, values, codes, schedule, source.choice(rows))
            for ask, told in self.wanted_answers(values, codes, schedule).items():
                self.assertEqual(desk.say(ask), told)

    def one_turn(self, desk, values, codes, schedule, row):
        slow = helper.slow_walk(values, codes, schedule)
        if row == "again":
            self.assertEqual(desk.say(row), "ok")
            return []
        if not row.startswith("move"):
            wanted = self.wanted_answers(values, codes, schedule)
            self.assertEqual(desk.say(row), wanted[row], (values, codes, schedule))
            return schedule
        thread = int(row[5:])
        if not (thread < len(codes) and slow.may(thread)):
            self.refused(errors.NoMove, desk.say, row)
            return schedule
        deed = slow.move(thread)
        self.assertEqual(desk.say(row), "-" if deed is None else f"{deed[1]} {deed[2]}", (values, codes, schedule))
        return schedule + [thread]

    def test_drawn_questions_of_the_whole_program(self):
        unlike = 0
        lines = [("read", 0, 0), ("write", 0, ("number", 1)), ("write", 1, ("number", 2)), ("read", 1, 1)]
        programs = list(helper.small_programs(lines, 2)) + helper.some_programs(92, 60, 6)
        for values, codes in programs + helper.some_busy_programs(93, 80, 5):
            known = helper.slow_states(values, codes)
            all_loose = helper.slow_loose_states(values, codes)
            text = show_program(Program(values, codes))
            desk = Desk(text)
            if len(known) > 400:
                for ask in ("free", "ends", "alike"):
                    self.refused(errors.TooGreat, desk.say, ask)
                continue
            self.of_the_looker(desk, text, values, codes, known)
            counts, all_ends = self.counted_ends(values, codes, known)
            self.assertEqual(desk.say("ends"), counts, (values, codes))
            if len(all_loose) > 1500:
                self.refused(errors.TooGreat, desk.say, "alike")
                continue
            loose_ends = {loose[0] for loose, moves in all_loose.items() if not moves}
            self.assertEqual(desk.say("alike"), "yes" if loose_ends == all_ends else "no", (values, codes))
            unlike += loose_ends != all_ends
        self.assertGreater(unlike, 0)

    def of_the_looker(self, desk, text, values, codes, known):
        found = [helper.slow_clash_in(helper.slow_walk(values, codes, schedule)) for schedule in known.values()]
        self.assertEqual(desk.say("free"), clash_words(text) if any(found) else "yes", (values, codes))
        self.assertEqual(Desk(text).say("free"), desk.say("free"))

    def counted_ends(self, values, codes, known):
        counts = [0, 0]
        all_ends = set()
        threads = range(len(codes))
        for state, schedule in known.items():
            slow = helper.slow_walk(values, codes, schedule)
            if not any(slow.may(thread) for thread in threads):
                counts[any(slow.awake[thread] and not slow.ended(thread) for thread in threads)] += 1
                all_ends.add(state)
        return f"{counts[0]} {counts[1]}", all_ends


if __name__ == "__main__":
    unittest.main()
