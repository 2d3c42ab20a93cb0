"""The orders in which the deeds of a row could as well have been done."""

from racewise.clocks import clocks, reaches
from racewise.deeds import Row
from racewise.errors import NoWeaving


def is_weaving(row, order):
    if sorted(order) != list(range(row.size)):
        return False
    told = clocks(row)
    for position, later in enumerate(order):
        for earlier in order[:position]:
            if reaches(row, told, later, earlier):
                return False
    return True


def woven(row, order):
    if not is_weaving(row, order):
        raise NoWeaving("the list is no weaving of the row")
    return Row(row.many, [row.deed(place) for place in order])
