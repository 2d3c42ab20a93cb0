"""The points of the document said once more, slowly and word by word, to hold the program against."""

import itertools
import random

WORDS = ["read", "write", "take", "give", "fork", "wait"]
BIG = 10 ** 60 - 1


def holder(past, lock):
    who = None
    for thread, word, thing in past:
        if thing == lock and word == "take":
            who = thread
        if thing == lock and word == "give":
            who = None
    return who


def slow_faults(many, past, deed):
    """All faults that a deed has behind a past without fault, in the document's order."""
    thread, word, thing = deed
    forked = [d[2] for d in past if d[1] == "fork"]
    awaited = [d[2] for d in past if d[1] == "wait"]
    told = []
    if thread not in range(many):
        told.append("thread")
    if word not in WORDS:
        told.append("word")
    if thing < 0 or (word in ("fork", "wait") and thing not in range(many)):
        told.append("thing")
    if thread != 0 and thread not in forked:
        told.append("asleep")
    if thread in awaited:
        told.append("gone")
    if word == "take" and holder(past, thing) is not None:
        told.append("held")
    if word == "give" and holder(past, thing) != thread:
        told.append("loose")
    if word == "fork" and (thing == 0 or thing in forked):
        told.append("twice")
    if word == "wait" and thing != 0 and thing not in forked:
        told.append("unborn")
    if word == "wait" and thing == thread:
        told.append("self")
    return told


def slow_fault(many, deeds):
    for place, deed in enumerate(deeds):
        told = slow_faults(many, deeds[:place], deed)
        if told:
            return (place, told[0])
    return None


def straight(deeds, one, other):
    """Whether one of the four ways by itself sets the one deed ahead of the other."""
    first, second = deeds[one], deeds[other]
    return (
        (one < other and first[0] == second[0])
        or (first[1] == "fork" and second[0] == first[2])
        or (first[1] == "fork" and second[1] == "wait" and second[2] == first[2])
        or (second[1] == "wait" and first[0] == second[2])
        or (one < other and first[1] == "give" and second[1] == "take" and first[2] == second[2])
    )


def slow_ahead(deeds):
    """By place and place whether the one deed is ahead of the other, through others too."""
    places = range(len(deeds))
    table = [[straight(deeds, one, other) for other in places] for one in places]
    for middle in places:
        for one in places:
            if table[one][middle]:
                for other in places:
                    table[one][other] = table[one][other] or table[middle][other]
    return table


def slow_clocks(many, deeds):
    table = slow_ahead(deeds)
    places = range(len(deeds))
    return [
        [
            len([one for one in places if deeds[one][0] == thread and (one == place or table[one][place])])
            for thread in range(many)
        ]
        for place in places
    ]


def all_deeds(threads, things, words):
    return [(thread, word, thing) for thread in threads for word in words for thing in things]


def all_rows(many, size, things, words=WORDS):
    """All lists without fault of up to so many deeds."""
    choice = all_deeds(range(many), things, words)
    rows = [[]]
    for past in rows:
        if len(past) < size:
            rows.extend([past + [deed] for deed in choice if not slow_faults(many, past, deed)])
    return rows


def some_rows(seed, number, sizes=(0, 60)):
    """Lists without fault, the same ones for each seed; some are cut short where all threads are gone."""
    source = random.Random(seed)
    rows = []
    for turn in range(number):
        many = source.randint(1, 6)
        locks = source.choice([[0], [0, 1], [0, 1, BIG]])
        deeds = []
        for step in range(source.randint(*sizes)):
            choice = all_deeds(range(many), locks, ["read", "write", "take", "give"])
            choice += all_deeds(range(many), range(many), ["fork", "wait"])
            source.shuffle(choice)
            # Waits end threads, so that with many of them rows would be short.
            if source.randint(0, 3):
                choice = [deed for deed in choice if deed[1] != "wait"]
            able = [deed for deed in choice if not slow_faults(many, deeds, deed)]
            if able:
                deeds.append(able[0])
        rows.append((many, deeds))
    return rows


def slow_is_weaving(deeds, order):
    table = slow_ahead(deeds)
    if len(order) != len(deeds) or any(order.count(place) != 1 for place in range(len(deeds))):
        return False
    stands = [order.index(place) for place in range(len(deeds))]
    return all(
        stands[one] < stands[other]
        for one in range(len(deeds)) for other in range(len(deeds)) if table[one][other]
    )


def next_places(table, order):
    """The places that may stand next behind the beginning of a weaving."""
    places = [place for place in range(len(table)) if place not in order]
    return [place for place in places if not any(table[one][place] for one in places)]


def all_weavings(deeds):
    table = slow_ahead(deeds)
    orders = [[]]
    for step in deeds:
        orders = [order + [place] for order in orders for place in next_places(table, order)]
    return orders


def some_weavings(source, deeds, number):
    table = slow_ahead(deeds)
    orders = []
    for turn in range(number):
        order = []
        for step in deeds:
            order.append(source.choice(next_places(table, order)))
        orders.append(order)
    return orders


def slow_odds(deeds):
    """The pairs of unlike threads that read or write one name, at least one of them a write, sorted."""
    told = []
    for other in range(len(deeds)):
        for one in range(other):
            words = sorted([deeds[one][1], deeds[other][1]])
            if words not in (["read", "write"], ["write", "write"]):
                continue
            if deeds[one][0] != deeds[other][0] and deeds[one][2] == deeds[other][2]:
                told.append((one, other))
    return sorted(told)


def slow_races(deeds):
    table = slow_ahead(deeds)
    return [(one, other) for one, other in slow_odds(deeds) if not table[one][other] and not table[other][one]]


def slow_beside(deeds, one, other):
    table = slow_ahead(deeds)
    needed = [place for place in range(len(deeds)) if table[place][one] or table[place][other]]
    behind = [place for place in range(len(deeds)) if place not in needed + [one, other]]
    return needed + [one, other] + behind


def slow_seen(deeds):
    told = []
    for place, (thread, word, thing) in enumerate(deeds):
        writes = [one for one in range(place) if deeds[one][1:] == ("write", thing)]
        told.append(writes[-1] if word == "read" and writes else None)
    return told


def slow_first_race(deeds):
    found = slow_races(deeds)
    for other in range(len(deeds)):
        for one in range(len(deeds)):
            if (one, other) in found:
                return (one, other)
    return None


def slow_held(deeds):
    locks = sorted({thing for thread, word, thing in deeds if word == "take"})
    return [
        [lock for lock in locks if holder(deeds[:place], lock) == deeds[place][0]]
        for place in range(len(deeds))
    ]


def slow_guards(deeds, name):
    told = slow_held(deeds)
    places = [place for place, deed in enumerate(deeds) if deed[1:] in (("read", name), ("write", name))]
    if not places:
        return None
    return [lock for lock in told[places[0]] if all(lock in told[place] for place in places)]


def slow_warned(deeds):
    told = slow_held(deeds)
    return [(one, other) for one, other in slow_odds(deeds) if not set(told[one]) & set(told[other])]


def some_lock_rows(seed, number, sizes, most_threads=6):
    """Lists without fault that mostly take locks while holding others."""
    source = random.Random(seed)
    rows = []
    for turn in range(number):
        many = source.randint(2, most_threads)
        locks = [0, 1, 2, 3, BIG - 1, BIG][:source.randint(2, 6)]
        most = source.randint(1, 3)
        deeds = [(0, "fork", thread) for thread in range(1, many)]
        for step in range(source.randint(*sizes) - len(deeds)):
            thread = source.randrange(many)
            mine = [lock for lock in locks if holder(deeds, lock) == thread]
            free = [lock for lock in locks if holder(deeds, lock) is None]
            if mine and (not free or len(mine) > most or source.randint(0, 2) == 0):
                deeds.append((thread, "give", source.choice(mine)))
            elif free:
                deeds.append((thread, "take", source.choice(free)))
        rows.append((many, deeds))
    return rows


def slow_is_ring(deeds, told, places):
    """Whether these places are a ring of locks; told are the locks held, by place."""
    threads = [deeds[place][0] for place in places]
    if len(places) < 2 or len(set(threads)) < len(threads):
        return False
    if any(deeds[place][1] != "take" for place in places):
        return False
    if any(set(told[one]) & set(told[other]) for one, other in itertools.combinations(places, 2)):
        return False
    return all(deeds[one][2] in told[other] for one, other in zip(places, places[1:] + places[:1]))


def slow_has_ring(many, deeds):
    told = slow_held(deeds)
    # At each take of a ring the lock of another one is held.
    takes = [
        [place for place, deed in enumerate(deeds) if deed[:2] == (thread, "take") and told[place]]
        for thread in range(many)
    ]
    for number in range(2, many + 1):
        for threads in itertools.permutations(range(many), number):
            # A ring may be told from any of its takes on, so also from that of the least thread.
            if threads[0] == min(threads):
                for places in itertools.product(*[takes[thread] for thread in threads]):
                    if slow_is_ring(deeds, told, list(places)):
                        return True
    return False


class FreeRun:
    """Where a free run of a row has come to: by thread how many of its deeds are done."""

    def __init__(self, many, deeds, counts):
        self.counts = counts
        self.own = [[deed for deed in deeds if deed[0] == thread] for thread in range(many)]
        self.forked = [0]
        self.holders = {}
        for thread in range(many):
            done = self.own[thread][:counts[thread]]
            self.forked += [deed[2] for deed in done if deed[1] == "fork"]
            # What each one has taken and not given it holds, whatever others have had before or since.
            for lock in {deed[2] for deed in done if deed[1] == "take"}:
                if holder(done, lock) is not None:
                    self.holders[lock] = thread

    def has_done_all(self, thread):
        return self.counts[thread] == len(self.own[thread])

    def next_deed(self, thread):
        return None if self.has_done_all(thread) else self.own[thread][self.counts[thread]]

    def may(self, thread):
        deed = self.next_deed(thread)
        if deed is None or thread not in self.forked:
            return False
        if deed[1] == "take":
            return deed[2] not in self.holders
        if deed[1] == "wait":
            return deed[2] in self.forked and self.has_done_all(deed[2])
        return True

    def goes_round(self):
        nexts = {}
        for thread in range(len(self.own)):
            deed = self.next_deed(thread)
            if deed is not None and deed[1] == "take" and self.holders.get(deed[2], thread) != thread:
                nexts[thread] = self.holders[deed[2]]
        for first in nexts:
            thread = nexts[first]
            for step in range(len(self.own)):
                if thread == first:
                    return True
                thread = nexts.get(thread)
        return False


def all_free_runs(many, deeds):
    all_counts = [(0,) * many]
    known = set(all_counts)
    runs = []
    for counts in all_counts:
        free_run = FreeRun(many, deeds, counts)
        runs.append(free_run)
        for thread in range(many):
            behind = counts[:thread] + (counts[thread] + 1,) + counts[thread + 1:]
            if free_run.may(thread) and behind not in known:
                known.add(behind)
                all_counts.append(behind)
    return runs


class SlowRun:
    """A program's run in the kept order, told with lists that change."""

    def __init__(self, values, codes):
        self.codes = codes
        self.lines = [0 for code in codes]
        self.owns = [[0, 0, 0] for code in codes]
        self.shared = list(values)
        self.holders = [None, None, None]
        self.awake = [True] + [False for code in codes[1:]]

    def state(self):
        owns = tuple(tuple(own) for own in self.owns)
        return (tuple(self.lines), owns, tuple(self.shared), tuple(self.holders), tuple(self.awake))

    def ended(self, thread):
        return not self.lines[thread] < len(self.codes[thread])

    def may(self, thread):
        if not self.awake[thread] or self.ended(thread):
            return False
        line = self.codes[thread][self.lines[thread]]
        return {
            "take": lambda lock: self.holders[lock] is None,
            "give": lambda lock: self.holders[lock] is not None and self.holders[lock] == thread,
            "fork": lambda other: self.awake[other] is False,
            "wait": lambda other: self.awake[other] is True and self.ended(other),
        }.get(line[0], lambda part: True)(line[1])

    def value(self, thread, value):
        return {"own": lambda number: self.owns[thread][number], "number": lambda number: number}[value[0]](value[1])

    def move(self, thread):
        """Does the thread's next line and tells its deed, or None."""
        line = self.codes[thread][self.lines[thread]]
        self.lines[thread] += 1
        return getattr(self, "do_" + line[0])(thread, *line[1:])

    def do_read(self, thread, own, name):
        self.owns[thread][own] = self.shared[name]
        return (thread, "read", name)

    def do_write(self, thread, name, value):
        self.shared[name] = self.value(thread, value)
        return (thread, "write", name)

    def do_set(self, thread, own, one, sign, other):
        factor = {"+": 1, "-": -1}[sign]
        self.owns[thread][own] = self.value(thread, one) + factor * self.value(thread, other)

    def do_skip(self, thread, one, test, other, count):
        gap = self.value(thread, other) - self.value(thread, one)
        if {"==": gap == 0, "<": gap > 0}[test]:
            self.lines[thread] += count

    def do_take(self, thread, lock):
        self.holders[lock] = thread
        return (thread, "take", lock)

    def do_give(self, thread, lock):
        self.holders[lock] = None
        return (thread, "give", lock)

    def do_fork(self, thread, other):
        self.awake[other] = True
        return (thread, "fork", other)

    def do_wait(self, thread, other):
        return (thread, "wait", other)


def some_value(source):
    if source.randint(0, 1):
        return ("own", source.randint(0, 2))
    return ("number", source.choice([0, 0, 1, 1, 2, -1, -3, BIG, -BIG]))


def some_line(source, many, names, words):
    word = source.choice(words)
    if word == "read":
        return (word, source.randint(0, 2), source.randrange(names))
    if word == "write":
        return (word, source.randrange(names), some_value(source))
    if word == "set":
        return (word, source.randint(0, 2), some_value(source), source.choice("+-"), some_value(source))
    if word == "skip":
        count = source.choice([0, 1, 1, 2, 3, 8])
        return (word, some_value(source), source.choice(["==", "<"]), some_value(source), count)
    if word in ("take", "give"):
        return (word, source.randint(0, 2))
    return (word, source.randrange(many))


def lively_code(source, many, names, thread):
    """Code that is seldom shut out for good: forks and waits as they may be, and gives of what was taken."""
    code = [("fork", other) for other in range(1, many)] if thread == 0 else []
    taken = []
    for step in range(source.randint(0, 8 - len(code))):
        words = ["read", "write", "set", "skip", "take"] + ["give"] * 2 * len(taken)
        line = some_line(source, many, names, words)
        if line[0] == "take" and line[1] not in taken:
            taken.append(line[1])
        elif line[0] == "give":
            line = ("give", taken.pop())
        code.append(line)
    if thread == 0 and many > 1 and len(code) < 8 and source.randint(0, 1):
        code.append(("wait", source.randrange(1, many)))
    return code


def some_programs(seed, number):
    """First values and codes, the same ones for each seed; a third of them with lines drawn freely."""
    source = random.Random(seed)
    programs = []
    for turn in range(number):
        many = source.randint(1, 3)
        names = source.randint(1, 4)
        values = [source.choice([0, 1, -1, 5, BIG, -BIG]) for name in range(names)]
        if turn % 3:
            codes = [lively_code(source, many, names, thread) for thread in range(many)]
        else:
            words = ["read", "write", "set", "skip", "take", "give", "fork", "wait"]
            codes = [
                [some_line(source, many, names, words) for step in range(source.randint(0, 8))]
                for thread in range(many)
            ]
        programs.append((values, codes))
    return programs


def some_schedule(source, values, codes):
    """Threads that move one after another, drawn one by one, until none may or by chance."""
    slow = SlowRun(values, codes)
    schedule = []
    while source.randint(0, 30):
        able = [thread for thread in range(len(codes)) if slow.may(thread)]
        if not able:
            break
        schedule.append(source.choice(able))
        slow.move(schedule[-1])
    return schedule
