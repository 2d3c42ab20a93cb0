"""The points of the document said once more, slowly and word by word, to hold the program against."""

import itertools
import random

WORDS = ["read", "write", "take", "give", "fork", "wait"]
BIG = 10 ** 60 - 1


def holder(past, lock):
    who = None
    for thread, word, thing in past:
        if thing == lock and word == "take":
            who = thread
        if thing == lock and word == "give":
            who = None
    return who


def slow_faults(many, past, deed):
    """All faults that a deed has behind a past without fault, in the document's order."""
    thread, word, thing = deed
    forked = [d[2] for d in past if d[1] == "fork"]
    awaited = [d[2] for d in past if d[1] == "wait"]
    told = []
    if thread not in range(many):
        told.append("thread")
    if word not in WORDS:
        told.append("word")
    if thing < 0 or (word in ("fork", "wait") and thing not in range(many)):
        told.append("thing")
    if thread != 0 and thread not in forked:
        told.append("asleep")
    if thread in awaited:
        told.append("gone")
    if word == "take" and holder(past, thing) is not None:
        told.append("held")
    if word == "give" and holder(past, thing) != thread:
        told.append("loose")
    if word == "fork" and (thing == 0 or thing in forked):
        told.append("twice")
    if word == "wait" and thing != 0 and thing not in forked:
        told.append("unborn")
    if word == "wait" and thing == thread:
        told.append("self")
    return told


def slow_fault(many, deeds):
    for place, deed in enumerate(deeds):
        told = slow_faults(many, deeds[:place], deed)
        if told:
            return (place, told[0])
    return None


def straight(deeds, one, other):
    """Whether one of the four ways by itself sets the one deed ahead of the other."""
    first, second = deeds[one], deeds[other]
    return (
        (one < other and first[0] == second[0])
        or (first[1] == "fork" and second[0] == first[2])
        or (first[1] == "fork" and second[1] == "wait" and second[2] == first[2])
        or (second[1] == "wait" and first[0] == second[2])
        or (one < other and first[1] == "give" and second[1] == "take" and first[2] == second[2])
    )


def slow_ahead(deeds):
    """By place and place whether the one deed is ahead of the other, through others too."""
    places = range(len(deeds))
    table = [[straight(deeds, one, other) for other in places] for one in places]
    for middle in places:
        for one in places:
            if table[one][middle]:
                for other in places:
                    table[one][other] = table[one][other] or table[middle][other]
    return table


def slow_clocks(many, deeds):
    table = slow_ahead(deeds)
    places = range(len(deeds))
    return [
        [
            len([one for one in places if deeds[one][0] == thread and (one == place or table[one][place])])
            for thread in range(many)
        ]
        for place in places
    ]


def all_deeds(threads, things, words):
    return [(thread, word, thing) for thread in threads for word in words for thing in things]


def all_rows(many, size, things, words=WORDS):
    """All lists without fault of up to so many deeds."""
    choice = all_deeds(range(many), things, words)
    rows = [[]]
    for past in rows:
        if len(past) < size:
            rows.extend([past + [deed] for deed in choice if not slow_faults(many, past, deed)])
    return rows


def some_rows(seed, number, sizes=(0, 60)):
    """Lists without fault, the same ones for each seed; some are cut short where all threads are gone."""
    source = random.Random(seed)
    rows = []
    for turn in range(number):
        many = source.randint(1, 6)
        locks = source.choice([[0], [0, 1], [0, 1, BIG]])
        deeds = []
        for step in range(source.randint(*sizes)):
            choice = all_deeds(range(many), locks, ["read", "write", "take", "give"])
            choice += all_deeds(range(many), range(many), ["fork", "wait"])
            source.shuffle(choice)
            # Waits end threads, so that with many of them rows would be short.
            if source.randint(0, 3):
                choice = [deed for deed in choice if deed[1] != "wait"]
            able = [deed for deed in choice if not slow_faults(many, deeds, deed)]
            if able:
                deeds.append(able[0])
        rows.append((many, deeds))
    return rows


def slow_is_weaving(deeds, order):
    table = slow_ahead(deeds)
    if len(order) != len(deeds) or any(order.count(place) != 1 for place in range(len(deeds))):
        return False
    stands = [order.index(place) for place in range(len(deeds))]
    return all(
        stands[one] < stands[other]
        for one in range(len(deeds)) for other in range(len(deeds)) if table[one][other]
    )


def next_places(table, order):
    """The places that may stand next behind the beginning of a weaving."""
    places = [place for place in range(len(table)) if place not in order]
    return [place for place in places if not any(table[one][place] for one in places)]


def all_weavings(deeds):
    table = slow_ahead(deeds)
    orders = [[]]
    for step in deeds:
        orders = [order + [place] for order in orders for place in next_places(table, order)]
    return orders


def some_weavings(source, deeds, number):
    table = slow_ahead(deeds)
    orders = []
    for turn in range(number):
        order = []
        for step in deeds:
            order.append(source.choice(next_places(table, order)))
        orders.append(order)
    return orders


def slow_odds(deeds):
    """The pairs of unlike threads that read or write one name, at least one of them a write, sorted."""
    told = []
    for other in range(len(deeds)):
        for one in range(other):
            words = sorted([deeds[one][1], deeds[other][1]])
            if words not in (["read", "write"], ["write", "write"]):
                continue
            if deeds[one][0] != deeds[other][0] and deeds[one][2] == deeds[other][2]:
                told.append((one, other))
    return sorted(told)


def slow_races(deeds):
    table = slow_ahead(deeds)
    return [(one, other) for one, other in slow_odds(deeds) if not table[one][other] and not table[other][one]]


def slow_beside(deeds, one, other):
    table = slow_ahead(deeds)
    needed = [place for place in range(len(deeds)) if table[place][one] or table[place][other]]
    behind = [place for place in range(len(deeds)) if place not in needed + [one, other]]
    return needed + [one, other] + behind


def slow_seen(deeds):
    told = []
    for place, (thread, word, thing) in enumerate(deeds):
        writes = [one for one in range(place) if deeds[one][1:] == ("write", thing)]
        told.append(writes[-1] if word == "read" and writes else None)
    return told


def slow_first_race(deeds):
    found = slow_races(deeds)
    for other in range(len(deeds)):
        for one in range(len(deeds)):
            if (one, other) in found:
                return (one, other)
    return None


def slow_held(deeds):
    locks = sorted({thing for thread, word, thing in deeds if word == "take"})
    return [
        [lock for lock in locks if holder(deeds[:place], lock) == deeds[place][0]]
        for place in range(len(deeds))
    ]


def slow_guards(deeds, name):
    told = slow_held(deeds)
    places = [place for place, deed in enumerate(deeds) if deed[1:] in (("read", name), ("write", name))]
    if not places:
        return None
    return [lock for lock in told[places[0]] if all(lock in told[place] for place in places)]


def slow_warned(deeds):
    told = slow_held(deeds)
    return [(one, other) for one, other in slow_odds(deeds) if not set(told[one]) & set(told[other])]


def some_lock_rows(seed, number, sizes, most_threads=6):
    """Lists without fault that mostly take locks while holding others."""
    source = random.Random(seed)
    rows = []
    for turn in range(number):
        many = source.randint(2, most_threads)
        locks = [0, 1, 2, 3, BIG - 1, BIG][:source.randint(2, 6)]
        most = source.randint(1, 3)
        deeds = [(0, "fork", thread) for thread in range(1, many)]
        for step in range(source.randint(*sizes) - len(deeds)):
            thread = source.randrange(many)
            mine = [lock for lock in locks if holder(deeds, lock) == thread]
            free = [lock for lock in locks if holder(deeds, lock) is None]
            if mine and (not free or len(mine) > most or source.randint(0, 2) == 0):
                deeds.append((thread, "give", source.choice(mine)))
            elif free:
                deeds.append((thread, "take", source.choice(free)))
        rows.append((many, deeds))
    return rows


def slow_is_ring(deeds, told, places):
    """Whether these places are a ring of locks; told are the locks held, by place."""
    threads = [deeds[place][0] for place in places]
    if len(places) < 2 or len(set(threads)) < len(threads):
        return False
    if any(deeds[place][1] != "take" for place in places):
        return False
    if any(set(told[one]) & set(told[other]) for one, other in itertools.combinations(places, 2)):
        return False
    return all(deeds[one][2] in told[other] for one, other in zip(places, places[1:] + places[:1]))


def slow_has_ring(many, deeds):
    told = slow_held(deeds)
    # At each take of a ring the lock of another one is held.
    takes = [
        [place for place, deed in enumerate(deeds) if deed[:2] == (thread, "take") and told[place]]
        for thread in range(many)
    ]
    for number in range(2, many + 1):
        for threads in itertools.permutations(range(many), number):
            # A ring may be told from any of its takes on, so also from that of the least thread.
            if threads[0] == min(threads):
                for places in itertools.product(*[takes[thread] for thread in threads]):
                    if slow_is_ring(deeds, told, list(places)):
                        return True
    return False


class FreeRun:
    """Where a free run of a row has come to: by thread how many of its deeds are done."""

    def __init__(self, many, deeds, counts):
        self.counts = counts
        self.own = [[deed for deed in deeds if deed[0] == thread] for thread in range(many)]
        self.forked = [0]
        self.holders = {}
        for thread in range(many):
            done = self.own[thread][:counts[thread]]
            self.forked += [deed[2] for deed in done if deed[1] == "fork"]
            # What each one has taken and not given it holds, whatever others have had before or since.
            for lock in {deed[2] for deed in done if deed[1] == "take"}:
                if holder(done, lock) is not None:
                    self.holders[lock] = thread

    def has_done_all(self, thread):
        return self.counts[thread] == len(self.own[thread])

    def next_deed(self, thread):
        return None if self.has_done_all(thread) else self.own[thread][self.counts[thread]]

    def may(self, thread):
        deed = self.next_deed(thread)
        if deed is None or thread not in self.forked:
            return False
        if deed[1] == "take":
            return deed[2] not in self.holders
        if deed[1] == "wait":
            return deed[2] in self.forked and self.has_done_all(deed[2])
        return True

    def goes_round(self):
        nexts = {}
        for thread in range(len(self.own)):
            deed = self.next_deed(thread)
            if deed is not None and deed[1] == "take" and self.holders.get(deed[2], thread) != thread:
                nexts[thread] = self.holders[deed[2]]
        for first in nexts:
            thread = nexts[first]
            for step in range(len(self.own)):
                if thread == first:
                    return True
                thread = nexts.get(thread)
        return False


def all_free_runs(many, deeds):
    all_counts = [(0,) * many]
    known = set(all_counts)
    runs = []
    for counts in all_counts:
        free_run = FreeRun(many, deeds, counts)
        runs.append(free_run)
        for thread in range(many):
            behind = counts[:thread] + (counts[thread] + 1,) + counts[thread + 1:]
            if free_run.may(thread) and behind not in known:
                known.add(behind)
                all_counts.append(behind)
    return runs


class SlowRun:
    """A program's run in the kept order, told with lists that change."""

    def __init__(self, values, codes):
        self.codes = codes
        self.lines = [0 for code in codes]
        self.owns = [[0, 0, 0] for code in codes]
        self.shared = list(values)
        self.holders = [None, None, None]
        self.awake = [True] + [False for code in codes[1:]]

    def state(self):
        owns = tuple(tuple(own) for own in self.owns)
        return (tuple(self.lines), owns, tuple(self.shared), tuple(self.holders), tuple(self.awake))

    def ended(self, thread):
        return not self.lines[thread] < len(self.codes[thread])

    def may(self, thread):
        if not self.awake[thread] or self.ended(thread):
            return False
        line = self.codes[thread][self.lines[thread]]
        return {
            "take": lambda lock: self.holders[lock] is None,
            "give": lambda lock: self.holders[lock] is not None and self.holders[lock] == thread,
            "fork": lambda other: self.awake[other] is False,
            "wait": lambda other: self.awake[other] is True and self.ended(other),
        }.get(line[0], lambda part: True)(line[1])

    def value(self, thread, value):
        return {"own": lambda number: self.owns[thread][number], "number": lambda number: number}[value[0]](value[1])

    def move(self, thread):
        """Does the thread's next line and tells its deed, or None."""
        line = self.codes[thread][self.lines[thread]]
        self.lines[thread] += 1
        return getattr(self, "do_" + line[0])(thread, *line[1:])

    def do_read(self, thread, own, name):
        self.owns[thread][own] = self.shared[name]
        return (thread, "read", name)

    def do_write(self, thread, name, value):
        self.shared[name] = self.value(thread, value)
        return (thread, "write", name)

    def do_set(self, thread, own, one, sign, other):
        factor = {"+": 1, "-": -1}[sign]
        self.owns[thread][own] = self.value(thread, one) + factor * self.value(thread, other)

    def do_skip(self, thread, one, test, other, count):
        gap = self.value(thread, other) - self.value(thread, one)
        if {"==": gap == 0, "<": gap > 0}[test]:
            self.lines[thread] += count

    def do_take(self, thread, lock):
        self.holders[lock] = thread
        return (thread, "take", lock)

    def do_give(self, thread, lock):
        self.holders[lock] = None
        return (thread, "give", lock)

    def do_fork(self, thread, other):
        self.awake[other] = True
        return (thread, "fork", other)

    def do_wait(self, thread, other):
        return (thread, "wait", other)


def some_value(source):
    if source.randint(0, 1):
        return ("own", source.randint(0, 2))
    return ("number", source.choice([0, 0, 1, 1, 2, -1, -3, BIG, -BIG]))


def some_line(source, many, names, words):
    word = source.choice(words)
    if word == "read":
        return (word, source.randint(0, 2), source.randrange(names))
    if word == "write":
        return (word, source.randrange(names), some_value(source))
    if word == "set":
        return (word, source.randint(0, 2), some_value(source), source.choice("+-"), some_value(source))
    if word == "skip":
        count = source.choice([0, 1, 1, 2, 3, 8])
        return (word, some_value(source), source.choice(["==", "<"]), some_value(source), count)
    if word in ("take", "give"):
        return (word, source.randint(0, 2))
    return (word, source.randrange(many))


def lively_code(source, many, names, thread, most):
    """Code that is seldom shut out for good: forks and waits as they may be, and gives of what was taken."""
    code = [("fork", other) for other in range(1, many)] if thread == 0 else []
    taken = []
    for step in range(source.randint(0, most - len(code))):
        words = ["read", "write", "set", "skip", "take"] + ["give"] * 2 * len(taken)
        line = some_line(source, many, names, words)
        if line[0] == "take" and line[1] not in taken:
            taken.append(line[1])
        elif line[0] == "give":
            line = ("give", taken.pop())
        code.append(line)
    if thread == 0 and many > 1 and len(code) < most and source.randint(0, 1):
        code.append(("wait", source.randrange(1, many)))
    return code


def some_programs(seed, number, most=8):
    """First values and codes, the same ones for each seed; a third of them with lines drawn freely."""
    source = random.Random(seed)
    programs = []
    for turn in range(number):
        many = source.randint(1, 3)
        names = source.randint(1, 4)
        values = [source.choice([0, 1, -1, 5, BIG, -BIG]) for name in range(names)]
        if turn % 3:
            codes = [lively_code(source, many, names, thread, most) for thread in range(many)]
        else:
            words = ["read", "write", "set", "skip", "take", "give", "fork", "wait"]
            codes = [
                [some_line(source, many, names, words) for step in range(source.randint(0, most))]
                for thread in range(many)
            ]
        programs.append((values, codes))
    return programs


def some_schedule(source, values, codes):
    """Threads that move one after another, drawn one by one, until none may or by chance."""
    slow = SlowRun(values, codes)
    schedule = []
    while source.randint(0, 30):
        able = [thread for thread in range(len(codes)) if slow.may(thread)]
        if not able:
            break
        schedule.append(source.choice(able))
        slow.move(schedule[-1])
    return schedule


def section(source, names):
    """Lines that read and write names only while their lock is held, each name having one lock for all threads."""
    lock = source.randint(0, 2)
    guarded = [name for name in range(names) if name % 3 == lock]
    words = ["read", "write", "set"] if guarded else ["set"]
    lines = []
    for step in range(source.randint(1, 3)):
        line = some_line(source, 1, names, words)
        if line[0] == "read":
            line = ("read", line[1], source.choice(guarded))
        if line[0] == "write":
            line = ("write", source.choice(guarded), line[2])
        lines.append(line)
    if source.randint(0, 3) == 0:
        lines.insert(0, ("skip", some_value(source), source.choice(["==", "<"]), some_value(source), len(lines)))
    return [("take", lock)] + lines + [("give", lock)]


def guarded_code(source, many, names, thread, most):
    """Lines by thread 0 alone, forks, sections, and waits with lines of thread 0 alone behind them."""
    alone = ["read", "write", "set"]
    code = []
    if thread == 0:
        code += [some_line(source, many, names, alone) for step in range(source.randint(0, 1))]
        code += [("fork", other) for other in range(1, many)]
    parts = [section(source, names) for step in range(2)]
    if thread == 0:
        waits = [("wait", other) for other in range(1, many)]
        parts.append(waits + [some_line(source, many, names, alone) for step in range(2)])
    for part in parts:
        if len(code) + len(part) <= most:
            code += part
    return code


def some_guarded_programs(seed, number, most=6):
    """First values and codes, the same ones for each seed, most of them free of clashes."""
    source = random.Random(seed)
    programs = []
    for turn in range(number):
        many = source.randint(2, 3)
        names = source.randint(1, 4)
        values = [source.choice([0, 1, -1]) for name in range(names)]
        programs.append((values, [guarded_code(source, many, names, thread, most) for thread in range(many)]))
    return programs


def some_busy_programs(seed, number, most=4):
    """First values and codes, the same ones for each seed, in which threads read and write few names at once."""
    source = random.Random(seed)
    programs = []
    for turn in range(number):
        # Lines by which threads are shut out stand in every other program alone.
        words = ["read", "write"] * 4 + ["set", "skip"] + ["take", "give", "wait"] * (turn % 2)
        many = source.choice([2, 2, 3])
        names = source.randint(1, 2)
        codes = [[("fork", other) for other in range(1, many)]] + [[] for thread in range(1, many)]
        for code in codes:
            room = most - len(code)
            code += [some_line(source, many, names, words) for step in range(source.randint(room // 2, room))]
        programs.append(([source.choice([0, 0, 1]) for name in range(names)], codes))
    return programs


def small_programs(lines, size):
    """All programs of two threads, thread 0 forking the other first, each with as many of these lines behind it."""
    for one in itertools.product(lines, repeat=size):
        for other in itertools.product(lines, repeat=size):
            yield ([0, 0], [[("fork", 1)] + list(one), list(other)])


def slow_walk(values, codes, schedule):
    slow = SlowRun(values, codes)
    for thread in schedule:
        slow.move(thread)
    return slow


def slow_states(values, codes, most=400):
    """By state a schedule that leads there, deepest first; no further once there are more than so many."""
    known = {}
    schedules = [[]]
    while schedules and len(known) <= most:
        schedule = schedules.pop()
        slow = slow_walk(values, codes, schedule)
        if slow.state() not in known:
            known[slow.state()] = schedule
            schedules += [schedule + [thread] for thread in range(len(codes)) if slow.may(thread)]
    return known


def slow_reason(slow, thread):
    if not slow.awake[thread] or slow.ended(thread) or slow.may(thread):
        return None
    word, thing = slow.codes[thread][slow.lines[thread]]
    return {
        "take": ("lock", thing, slow.holders[thing]),
        "wait": ("wait", thing),
        "give": ("never",),
        "fork": ("never",),
    }[word]


def slow_touch(line):
    """The shared name that a line reads or writes, and whether it writes; None for other lines."""
    return {"read": lambda: (line[2], False), "write": lambda: (line[1], True)}.get(line[0], lambda: None)()


def slow_clash_in(slow):
    for one, other in itertools.combinations(range(len(slow.codes)), 2):
        if all(slow.awake[thread] and not slow.ended(thread) for thread in (one, other)):
            touches = [slow_touch(slow.codes[thread][slow.lines[thread]]) for thread in (one, other)]
            if None not in touches and touches[0][0] == touches[1][0] and (touches[0][1] or touches[1][1]):
                return (one, other)
    return None


def all_runs(values, codes):
    """The deeds of all schedules that go on until no thread may move."""
    schedules = [[]]
    while schedules:
        schedule = schedules.pop()
        slow = SlowRun(values, codes)
        deeds = [slow.move(thread) for thread in schedule]
        able = [thread for thread in range(len(codes)) if slow.may(thread)]
        schedules += [schedule + [thread] for thread in able]
        if not able:
            yield [deed for deed in deeds if deed is not None]


SET = ("set", 0, ("own", 0), "+", ("number", 0))
SAME = ("write", 0, ("number", 0))


def of_sets(first, second, third):
    """Each state is told by its lines alone: 1 + (second + 1) + (first + 1) * (second + 1) * (third + 1) of them."""
    return [[("fork", 1), ("fork", 2)] + [SET] * first, [SET] * second, [SET] * third]


# Codes of programs whose one shared name is at first 0, with 1 + 7 + 7 * 7 * 8 states, and 1 + 8 + 7 * 8 * 7 of them.
OF_400 = of_sets(6, 6, 7)
OF_401 = of_sets(6, 7, 6)
# All writes are of what is there, so a loose state is told by its lines and by how many writes are in each book.
# (1 + 1) + 2 + 17 * 2 * 44 loose states, thread 0 having 17 ways to stand behind its forks, the others 2 and 44.
OF_1500_LOOSE = [[SET, ("fork", 1), ("fork", 2), SAME, SAME, SET, SAME, SET], [SET], [SAME] * 7 + [SET]]
# 1 + 4 + 22 * 4 * 17 of them.
OF_1501_LOOSE = [
    [("fork", 1), ("fork", 2), SAME, SAME, SAME, SET, SET, SET], [SET, SAME], [SAME, SAME, SET, SAME, SET],
]


class SlowLoose(SlowRun):
    """A program's run in the loose order, told with lists that change."""

    def __init__(self, values, codes):
        super().__init__(values, codes)
        self.books = [[] for code in codes]

    def loose(self):
        return (self.state(), tuple(tuple(book) for book in self.books))

    def may(self, thread):
        if not super().may(thread):
            return False
        word, thing = self.codes[thread][self.lines[thread]][:2]
        if word in ("read", "write", "set", "skip"):
            return True
        return not self.books[thread] and not (word == "wait" and self.books[thing])

    def moves(self):
        told = [("do", thread) for thread in range(len(self.codes)) if self.may(thread)]
        for thread, book in enumerate(self.books):
            for name in range(len(self.shared)):
                if name in dict(book):
                    told.append(("out", thread, name))
        return told

    def go(self, move):
        if move[0] == "do":
            self.move(move[1])
        else:
            self.out(move[1], move[2])

    def out(self, thread, name):
        for place, (other, value) in enumerate(self.books[thread]):
            if other == name:
                self.shared[name] = value
                del self.books[thread][place]
                return

    def do_read(self, thread, own, name):
        self.owns[thread][own] = dict(self.books[thread]).get(name, self.shared[name])

    def do_write(self, thread, name, value):
        self.books[thread].append((name, self.value(thread, value)))


def slow_loose_states(values, codes, most=1500):
    """By loose state the moves that may be in it, deepest first; no further once there are more than so many."""
    known = {}
    all_moves = [[]]
    while all_moves and len(known) <= most:
        moves = all_moves.pop()
        slow = SlowLoose(values, codes)
        for move in moves:
            slow.go(move)
        if slow.loose() not in known:
            known[slow.loose()] = slow.moves()
            all_moves += [moves + [move] for move in slow.moves()]
    return known
