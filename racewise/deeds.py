"""Deeds of threads, the faults that they may have, and the rows of deeds that have none."""

from racewise.errors import NoRow

WORDS = ("read", "write", "take", "give", "fork", "wait")
WORDS_OF_NAMES = ("read", "write")
WORDS_OF_THREADS = ("fork", "wait")
MOST_THREADS = 6
MOST_DEEDS = 60


def fault_of_form(many, thread, word, thing):
    if not 0 <= thread < many:
        return "thread"
    if word not in WORDS:
        return "word"
    if thing < 0 or (word in WORDS_OF_THREADS and thing >= many):
        return "thing"
    return None


# What the deeds so far have done, as far as the faults of the next one hang on it.
class Past:
    def __init__(self):
        # Nobody forks thread 0, yet all faults treat it as a forked one.
        self.awake = {0: True}
        self.gone = {}
        self.holders = {}

    def fault_of_thread(self, thread):
        if thread not in self.awake:
            return "asleep"
        if thread in self.gone:
            return "gone"
        return None

    def fault_of_word(self, thread, word, thing):
        if word == "take" and thing in self.holders:
            return "held"
        if word == "give" and self.holders.get(thing) != thread:
            return "loose"
        if word == "fork" and thing in self.awake:
            return "twice"
        if word == "wait" and thing not in self.awake:
            return "unborn"
        if word == "wait" and thing == thread:
            return "self"
        return None

    def follow(self, thread, word, thing):
        if word == "take":
            self.holders[thing] = thread
        if word == "give":
            self.holders.pop(thing)
        if word == "fork":
            self.awake[thing] = True
        if word == "wait":
            self.gone[thing] = True


def fault_of_deed(many, past, thread, word, thing):
    found = fault_of_form(many, thread, word, thing)
    if found is None:
        found = past.fault_of_thread(thread)
    if found is None:
        found = past.fault_of_word(thread, word, thing)
    return found


def fault(many, deeds):
    past = Past()
    for place, (thread, word, thing) in enumerate(deeds):
        found = fault_of_deed(many, past, thread, word, thing)
        if found is not None:
            return (place, found)
        past.follow(thread, word, thing)
    return None


class Row:
    def __init__(self, many, deeds):
        if not 1 <= many <= MOST_THREADS:
            raise NoRow(f"a row has 1 to {MOST_THREADS} threads")
        if len(deeds) > MOST_DEEDS:
            raise NoRow(f"a row has at most {MOST_DEEDS} deeds")
        found = fault(many, deeds)
        if found is not None:
            raise NoRow(f"a deed has a fault: {found!r}")
        self.many = many
        self.size = len(deeds)
        # A tuple, so that no list that is handed in or told is the row's own.
        self.all_deeds = tuple(deeds)

    def deed(self, place):
        return self.all_deeds[place]

    def deeds(self):
        return list(self.all_deeds)


def touches(deed, name):
    return deed[1] in WORDS_OF_NAMES and deed[2] == name


def at_odds(one, other):
    if one[0] == other[0]:
        return False
    if one[1] != "write" and other[1] != "write":
        return False
    return touches(one, other[2]) and touches(other, one[2])


# What races and what is warned of are both drawn from these: the one by order, the other by locks.
def pairs_at_odds(row):
    told = []
    for one in range(row.size):
        for other in range(one + 1, row.size):
            if at_odds(row.deed(one), row.deed(other)):
                told.append((one, other))
    return told
