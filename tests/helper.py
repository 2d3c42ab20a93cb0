"""The points of the document said once more, slowly and word by word, to hold the program against."""

import random

WORDS = ["read", "write", "take", "give", "fork", "wait"]
BIG = 10 ** 60 - 1


def holder(past, lock):
    who = None
    for thread, word, thing in past:
        if thing == lock and word == "take":
            who = thread
        if thing == lock and word == "give":
            who = None
    return who


def slow_faults(many, past, deed):
    """All faults that a deed has behind a past without fault, in the document's order."""
    thread, word, thing = deed
    forked = [d[2] for d in past if d[1] == "fork"]
    awaited = [d[2] for d in past if d[1] == "wait"]
    told = []
    if thread not in range(many):
        told.append("thread")
    if word not in WORDS:
        told.append("word")
    if thing < 0 or (word in ("fork", "wait") and thing not in range(many)):
        told.append("thing")
    if thread != 0 and thread not in forked:
        told.append("asleep")
    if thread in awaited:
        told.append("gone")
    if word == "take" and holder(past, thing) is not None:
        told.append("held")
    if word == "give" and holder(past, thing) != thread:
        told.append("loose")
    if word == "fork" and (thing == 0 or thing in forked):
        told.append("twice")
    if word == "wait" and thing != 0 and thing not in forked:
        told.append("unborn")
    if word == "wait" and thing == thread:
        told.append("self")
    return told


def slow_fault(many, deeds):
    for place, deed in enumerate(deeds):
        told = slow_faults(many, deeds[:place], deed)
        if told:
            return (place, told[0])
    return None


def straight(deeds, one, other):
    """Whether one of the four ways by itself sets the one deed ahead of the other."""
    first, second = deeds[one], deeds[other]
    return (
        (one < other and first[0] == second[0])
        or (first[1] == "fork" and second[0] == first[2])
        or (first[1] == "fork" and second[1] == "wait" and second[2] == first[2])
        or (second[1] == "wait" and first[0] == second[2])
        or (one < other and first[1] == "give" and second[1] == "take" and first[2] == second[2])
    )


def slow_ahead(deeds):
    """By place and place whether the one deed is ahead of the other, through others too."""
    places = range(len(deeds))
    table = [[straight(deeds, one, other) for other in places] for one in places]
    for middle in places:
        for one in places:
            if table[one][middle]:
                for other in places:
                    table[one][other] = table[one][other] or table[middle][other]
    return table


def slow_clocks(many, deeds):
    table = slow_ahead(deeds)
    places = range(len(deeds))
    return [
        [
            len([one for one in places if deeds[one][0] == thread and (one == place or table[one][place])])
            for thread in range(many)
        ]
        for place in places
    ]


def all_deeds(threads, things, words):
    return [(thread, word, thing) for thread in threads for word in words for thing in things]


def all_rows(many, size, things, words=WORDS):
    """All lists without fault of up to so many deeds."""
    choice = all_deeds(range(many), things, words)
    rows = [[]]
    for past in rows:
        if len(past) < size:
            rows.extend([past + [deed] for deed in choice if not slow_faults(many, past, deed)])
    return rows


def some_rows(seed, number, sizes=(0, 60)):
    """Lists without fault, the same ones for each seed; some are cut short where all threads are gone."""
    source = random.Random(seed)
    rows = []
    for turn in range(number):
        many = source.randint(1, 6)
        locks = source.choice([[0], [0, 1], [0, 1, BIG]])
        deeds = []
        for step in range(source.randint(*sizes)):
            choice = all_deeds(range(many), locks, ["read", "write", "take", "give"])
            choice += all_deeds(range(many), range(many), ["fork", "wait"])
            source.shuffle(choice)
            # Waits end threads, so that with many of them rows would be short.
            if source.randint(0, 3):
                choice = [deed for deed in choice if deed[1] != "wait"]
            able = [deed for deed in choice if not slow_faults(many, deeds, deed)]
            if able:
                deeds.append(able[0])
        rows.append((many, deeds))
    return rows


def slow_is_weaving(deeds, order):
    table = slow_ahead(deeds)
    if len(order) != len(deeds) or any(order.count(place) != 1 for place in range(len(deeds))):
        return False
    stands = [order.index(place) for place in range(len(deeds))]
    return all(
        stands[one] < stands[other]
        for one in range(len(deeds)) for other in range(len(deeds)) if table[one][other]
    )


def next_places(table, order):
    """The places that may stand next behind the beginning of a weaving."""
    places = [place for place in range(len(table)) if place not in order]
    return [place for place in places if not any(table[one][place] for one in places)]


def all_weavings(deeds):
    table = slow_ahead(deeds)
    orders = [[]]
    for step in deeds:
        orders = [order + [place] for order in orders for place in next_places(table, order)]
    return orders


def some_weavings(source, deeds, number):
    table = slow_ahead(deeds)
    orders = []
    for turn in range(number):
        order = []
        for step in deeds:
            order.append(source.choice(next_places(table, order)))
        orders.append(order)
    return orders


def slow_odds(deeds):
    """The pairs of unlike threads that read or write one name, at least one of them a write, sorted."""
    told = []
    for other in range(len(deeds)):
        for one in range(other):
            words = sorted([deeds[one][1], deeds[other][1]])
            if words not in (["read", "write"], ["write", "write"]):
                continue
            if deeds[one][0] != deeds[other][0] and deeds[one][2] == deeds[other][2]:
                told.append((one, other))
    return sorted(told)


def slow_races(deeds):
    table = slow_ahead(deeds)
    return [(one, other) for one, other in slow_odds(deeds) if not table[one][other] and not table[other][one]]


def slow_beside(deeds, one, other):
    table = slow_ahead(deeds)
    needed = [place for place in range(len(deeds)) if table[place][one] or table[place][other]]
    behind = [place for place in range(len(deeds)) if place not in needed + [one, other]]
    return needed + [one, other] + behind


def slow_seen(deeds):
    told = []
    for place, (thread, word, thing) in enumerate(deeds):
        writes = [one for one in range(place) if deeds[one][1:] == ("write", thing)]
        told.append(writes[-1] if word == "read" and writes else None)
    return told


def slow_first_race(deeds):
    found = slow_races(deeds)
    for other in range(len(deeds)):
        for one in range(len(deeds)):
            if (one, other) in found:
                return (one, other)
    return None


def slow_held(deeds):
    locks = sorted({thing for thread, word, thing in deeds if word == "take"})
    return [
        [lock for lock in locks if holder(deeds[:place], lock) == deeds[place][0]]
        for place in range(len(deeds))
    ]


def slow_guards(deeds, name):
    told = slow_held(deeds)
    places = [place for place, deed in enumerate(deeds) if deed[1:] in (("read", name), ("write", name))]
    if not places:
        return None
    return [lock for lock in told[places[0]] if all(lock in told[place] for place in places)]


def slow_warned(deeds):
    told = slow_held(deeds)
    return [(one, other) for one, other in slow_odds(deeds) if not set(told[one]) & set(told[other])]
