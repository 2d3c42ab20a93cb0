"""The promises of the whole over rows, held together."""

import random
import unittest

import helper
from racewise.clocks import ahead, clocks
from racewise.deeds import Row
from racewise.holds import guards, held, warned
from racewise.races import beside, first_race, races, seen
from racewise.weavings import is_weaving, woven


def neighbours(orders):
    """All pairs of places, the lesser first, that some order has side by side."""
    return {(min(pair), max(pair)) for order in orders for pair in zip(order, order[1:])}


def writes_seen(row, order):
    """By place of the row what its deed sees in the row woven so, as a place of the row."""
    told = {}
    for place, write in zip(order, seen(woven(row, order))):
        told[place] = None if write is None else order[write]
    return told


class Whole(unittest.TestCase):
    def holds(self, many, deeds):
        row = Row(many, deeds)
        pairs = races(row)
        for pair in pairs:
            for one, other in (pair, pair[::-1]):
                order = beside(row, one, other)
                self.assertTrue(is_weaving(row, order), (many, deeds))
                self.assertEqual(order.index(other) - order.index(one), 1, (many, deeds))
            self.assertIn(pair, warned(row), (many, deeds))
        self.sees_the_same(row, first_race(row))
        return pairs

    def sees_the_same(self, row, pair):
        if pair is None:
            return
        for one, other in (pair, pair[::-1]):
            order = beside(row, one, other)
            told = writes_seen(row, order)
            for place in order[:order.index(one)]:
                self.assertEqual(told[place], seen(row)[place], (row.deeds(), place))

    def test_all_weavings_of_short_rows(self):
        number = 0
        for many, rows in (
            (2, helper.all_rows(2, 5, range(1), ["read", "write", "take", "give"] + ["fork"])),
            (2, helper.all_rows(2, 5, range(2), ["write", "fork", "wait"])),
            (3, helper.all_rows(3, 5, range(1, 3), ["write", "fork", "wait"])),
        ):
            for deeds in rows:
                pairs = self.holds(many, deeds)
                number += len(pairs)
                side_by_side = neighbours(helper.all_weavings(deeds))
                self.assertEqual([pair for pair in helper.slow_odds(deeds) if pair in side_by_side], pairs, deeds)
        self.assertGreater(number, 1000)

    def test_all_weavings_of_drawn_rows(self):
        number = 0
        for many, deeds in helper.some_rows(16, 400, (4, 8)):
            pairs = self.holds(many, deeds)
            number += len(pairs)
            side_by_side = neighbours(helper.all_weavings(deeds))
            self.assertEqual([pair for pair in helper.slow_odds(deeds) if pair in side_by_side], pairs, deeds)
        self.assertGreater(number, 50)

    def test_some_weavings_of_long_rows(self):
        source = random.Random(17)
        for many, deeds in helper.some_rows(17, 40):
            pairs = self.holds(many, deeds)
            orders = helper.some_weavings(source, deeds, 4)
            for pair in set(helper.slow_odds(deeds)) & neighbours(orders):
                self.assertIn(pair, pairs, (many, deeds))
            for order in orders:
                told = [tuple(sorted((order[one], order[other]))) for one, other in races(woven(Row(many, deeds), order))]
                self.assertEqual(sorted(told), pairs, (many, deeds, order))

    def test_a_row_never_changes(self):
        for many, deeds in helper.some_rows(18, 30, (10, 40)):
            handed = list(deeds)
            row = Row(many, handed)
            handed.clear()
            pairs = races(row)
            order = beside(row, *pairs[0]) if pairs else list(range(row.size))
            asks = [
                clocks, races, seen, held, warned, lambda row: guards(row, 0), lambda row: woven(row, order).deeds(),
                lambda row: beside(row, *pairs[-1]) if pairs else [],
            ]
            wanted = [repr(ask(row)) for ask in asks]
            for ask in asks:
                told = ask(row)
                for part in told or []:
                    if isinstance(part, list):
                        part.clear()
                if told is not None:
                    told.clear()
                self.assertEqual([repr(again(row)) for again in asks], wanted)
            self.assertEqual(row.deeds(), deeds)
            self.assertIs(ahead(row, 0, 0), False)


if __name__ == "__main__":
    unittest.main()
