"""The promises of the whole over rows and over programs, held together."""

import random
import unittest

import helper
from racewise import errors
from racewise.clocks import ahead, clocks
from racewise.deeds import Row
from racewise.holds import guards, held, warned
from racewise.kept import begin, moved, movers, run
from racewise.looks import clash, clash_in, ends, is_stuck, reasons, states
from racewise.loose import loose_begin, loose_ends, loose_moved, loose_moves
from racewise.programs import Program
from racewise.races import beside, first_race, races, seen
from racewise.weavings import is_weaving, woven


def neighbours(orders):
    """All pairs of places, the lesser first, that some order has side by side."""
    return {(min(pair), max(pair)) for order in orders for pair in zip(order, order[1:])}


def writes_seen(row, order):
    """By place of the row what its deed sees in the row woven so, as a place of the row."""
    told = {}
    for place, write in zip(order, seen(woven(row, order))):
        told[place] = None if write is None else order[write]
    return told


class Whole(unittest.TestCase):
    def holds(self, many, deeds):
        row = Row(many, deeds)
        pairs = races(row)
        for pair in pairs:
            for one, other in (pair, pair[::-1]):
                order = beside(row, one, other)
                self.assertTrue(is_weaving(row, order), (many, deeds))
                self.assertEqual(order.index(other) - order.index(one), 1, (many, deeds))
            self.assertIn(pair, warned(row), (many, deeds))
        self.sees_the_same(row, first_race(row))
        return pairs

    def sees_the_same(self, row, pair):
        if pair is None:
            return
        for one, other in (pair, pair[::-1]):
            order = beside(row, one, other)
            told = writes_seen(row, order)
            for place in order[:order.index(one)]:
                self.assertEqual(told[place], seen(row)[place], (row.deeds(), place))

    def test_all_weavings_of_short_rows(self):
        number = 0
        for many, rows in (
            (2, helper.all_rows(2, 5, range(1), ["read", "write", "take", "give"] + ["fork"])),
            (2, helper.all_rows(2, 5, range(2), ["write", "fork", "wait"])),
            (3, helper.all_rows(3, 5, range(1, 3), ["write", "fork", "wait"])),
        ):
            for deeds in rows:
                pairs = self.holds(many, deeds)
                number += len(pairs)
                side_by_side = neighbours(helper.all_weavings(deeds))
                self.assertEqual([pair for pair in helper.slow_odds(deeds) if pair in side_by_side], pairs, deeds)
        self.assertGreater(number, 1000)

    def test_all_weavings_of_drawn_rows(self):
        number = 0
        for many, deeds in helper.some_rows(16, 400, (4, 8)):
            pairs = self.holds(many, deeds)
            number += len(pairs)
            side_by_side = neighbours(helper.all_weavings(deeds))
            self.assertEqual([pair for pair in helper.slow_odds(deeds) if pair in side_by_side], pairs, deeds)
        self.assertGreater(number, 50)

    def test_some_weavings_of_long_rows(self):
        source = random.Random(17)
        for many, deeds in helper.some_rows(17, 40):
            pairs = self.holds(many, deeds)
            orders = helper.some_weavings(source, deeds, 4)
            for pair in set(helper.slow_odds(deeds)) & neighbours(orders):
                self.assertIn(pair, pairs, (many, deeds))
            for order in orders:
                told = races(woven(Row(many, deeds), order))
                told = [tuple(sorted((order[one], order[other]))) for one, other in told]
                self.assertEqual(sorted(told), pairs, (many, deeds, order))

    def test_a_row_never_changes(self):
        for many, deeds in helper.some_rows(18, 30, (10, 40)):
            handed = list(deeds)
            row = Row(many, handed)
            handed.clear()
            pairs = races(row)
            order = beside(row, *pairs[0]) if pairs else list(range(row.size))
            asks = [
                clocks, races, seen, held, warned, lambda row: guards(row, 0), lambda row: woven(row, order).deeds(),
                lambda row: beside(row, *pairs[-1]) if pairs else [],
            ]
            wanted = [repr(ask(row)) for ask in asks]
            for ask in asks:
                told = ask(row)
                for part in told or []:
                    if isinstance(part, list):
                        part.clear()
                if told is not None:
                    told.clear()
                self.assertEqual([repr(again(row)) for again in asks], wanted)
            self.assertEqual(row.deeds(), deeds)
            self.assertIs(ahead(row, 0, 0), False)


class WholePrograms(unittest.TestCase):
    def setUp(self):
        self.number_of = {"free": 0, "clash": 0, "alike": 0, "unlike": 0, "several": 0}

    def holds(self, values, codes):
        """What is told of clashes, ends and loose ends goes together; None where the program is too great."""
        program = Program(values, codes)
        try:
            found = clash(program)
            kept_ends = ends(program)
            all_loose_ends = loose_ends(program)
        except errors.TooGreat:
            return None
        self.assertEqual(len(set(kept_ends)), len(kept_ends))
        self.assertEqual(len(set(all_loose_ends)), len(all_loose_ends))
        alike = set(kept_ends) == set(all_loose_ends)
        self.assertLessEqual(set(kept_ends), set(all_loose_ends), (values, codes))
        self.number_of["free" if found is None else "clash"] += 1
        self.number_of["alike" if alike else "unlike"] += 1
        self.number_of["several"] += found is None and len(kept_ends) > 1
        if found is None:
            self.assertTrue(alike, (values, codes))
        else:
            self.is_walked(program, found)
        return found

    def is_walked(self, program, found):
        schedule, one, other = found
        for pair in ([one, other], [other, one]):
            deeds = run(program, schedule + pair)[1]
            row = Row(program.many, deeds)
            self.assertEqual([deed[0] for deed in deeds[-2:]], pair)
            self.assertIn((row.size - 2, row.size - 1), races(row))

    def test_programs_with_guards(self):
        for most in (5, 6, 7, 8):
            for values, codes in helper.some_guarded_programs(20 + most, 70, most):
                self.holds(values, codes)
        self.assertGreater(self.number_of["free"], 200)
        self.assertGreater(self.number_of["several"], 30)

    def test_programs_with_one_line_that_spoils_the_guards(self):
        source = random.Random(21)
        for values, codes in helper.some_guarded_programs(21, 250, 6):
            thread = source.randrange(len(codes))
            codes = [list(code) for code in codes]
            places = [place for place, line in enumerate(codes[thread]) if line[0] in ("take", "give", "wait")]
            if places:
                place = source.choice(places)
                words = ["read", "write", "give", "take"]
                codes[thread][place] = helper.some_line(source, len(codes), len(values), words)
            self.holds(values, codes)
        self.assertGreater(self.number_of["free"], 50)
        self.assertGreater(self.number_of["clash"], 25)

    def test_drawn_programs(self):
        for values, codes in helper.some_programs(22, 250) + helper.some_busy_programs(23, 200, 5):
            self.holds(values, codes)
        self.assertGreater(self.number_of["free"], 150)
        self.assertGreater(self.number_of["clash"], 100)
        self.assertGreater(self.number_of["unlike"], 0)

    def test_all_runs_of_drawn_programs(self):
        for values, codes in helper.some_busy_programs(24, 250, 3) + helper.some_guarded_programs(25, 20, 4):
            found = self.holds(values, codes)
            raced = any(races(Row(len(codes), deeds)) for deeds in helper.all_runs(values, codes))
            self.assertIs(found is not None, raced, (values, codes))
        self.assertGreater(self.number_of["free"], 50)
        self.assertGreater(self.number_of["clash"], 50)

    def test_all_small_programs(self):
        lines = [("read", 0, 0), ("write", 0, ("number", 1)), ("write", 1, ("number", 2)), ("read", 1, 1)]
        for values, codes in helper.small_programs(lines, 2):
            self.holds(values, codes)
        for values, codes in helper.small_programs(lines[:2] + [("take", 0), ("give", 0), ("wait", 0), ("wait", 1)], 2):
            self.holds(values, codes)
        for number in self.number_of:
            self.assertGreater(self.number_of[number], 1, number)

    def test_a_program_never_changes(self):
        for values, codes in helper.some_busy_programs(26, 25, 4):
            program = Program(values, codes)
            asks = [
                states, ends, clash, loose_ends, begin, loose_begin, lambda program: movers(program, begin(program)),
                lambda program: reasons(program, begin(program)), lambda program: run(program, [0]),
                lambda program: loose_moves(program, loose_begin(program)),
                lambda program: program.first_values(), lambda program: program.code(0),
                lambda program: clash_in(program, moved(program, begin(program), 0)),
                lambda program: is_stuck(program, begin(program)),
                lambda program: loose_moved(program, loose_begin(program), ("do", 0)),
            ]
            try:
                wanted = [repr(ask(program)) for ask in asks]
            except errors.TooGreat:
                continue
            for ask in asks:
                told = ask(program)
                for part in [told] + list(told if isinstance(told, tuple) else []):
                    if isinstance(part, list):
                        part.clear()
                self.assertEqual([repr(again(program)) for again in asks], wanted)


if __name__ == "__main__":
    unittest.main()
