"""Which deeds of a row race, the weavings that show it, and the writes that reads see."""

from racewise.clocks import clocks, reaches
from racewise.deeds import pairs_at_odds
from racewise.errors import NoRace


def races(row):
    told = clocks(row)
    # The deed at the greater place is never ahead of the other one.
    return [(one, other) for one, other in pairs_at_odds(row) if not reaches(row, told, one, other)]


def beside(row, one, other):
    if (min(one, other), max(one, other)) not in races(row):
        raise NoRace(f"the deeds at {one} and {other} do not race")
    told = clocks(row)
    needed = []
    left = []
    for place in range(row.size):
        if reaches(row, told, place, one) or reaches(row, told, place, other):
            needed.append(place)
        elif place != one and place != other:
            left.append(place)
    return needed + [one, other] + left


def seen(row):
    last_writes = {}
    told = []
    for place, (thread, word, thing) in enumerate(row.deeds()):
        told.append(last_writes.get(thing) if word == "read" else None)
        if word == "write":
            last_writes[thing] = place
    return told


def first_race(row):
    return min(races(row), key=lambda pair: (pair[1], pair[0]), default=None)
