"""Small programs: first values of shared names, and lines of code for each thread."""

from racewise.errors import NoProgram

MOST_NAMES = 4
MOST_THREADS = 3
MOST_LINES = 8
OWN_NAMES = 3
LOCKS = 3

SIGNS = ("+", "-")
TESTS = ("==", "<")

# By the word of a line what its other parts are.
PARTS = {
    "read": ("own", "name"),
    "write": ("name", "value"),
    "set": ("own", "value", "sign", "value"),
    "skip": ("value", "test", "value", "count"),
    "take": ("lock",),
    "give": ("lock",),
    "fork": ("thread",),
    "wait": ("thread",),
}


# By kind of part how many numbers, from 0 on, it may be.
def limits_of(many, names):
    return {"own": OWN_NAMES, "name": names, "lock": LOCKS, "thread": many, "count": MOST_LINES + 1}


def is_value(value):
    if len(value) != 2:
        return False
    kind, number = value
    return kind == "number" or (kind == "own" and 0 <= number < OWN_NAMES)


def is_part(limits, kind, part):
    if kind == "value":
        return is_value(part)
    if kind == "sign":
        return part in SIGNS
    if kind == "test":
        return part in TESTS
    return 0 <= part < limits[kind]


def is_line(limits, line):
    if len(line) == 0 or line[0] not in PARTS:
        return False
    kinds = PARTS[line[0]]
    if len(line) != len(kinds) + 1:
        return False
    return all([is_part(limits, kind, part) for kind, part in zip(kinds, line[1:])])


class Program:
    def __init__(self, values, codes):
        if not 1 <= len(values) <= MOST_NAMES:
            raise NoProgram(f"a program has 1 to {MOST_NAMES} shared names")
        if not 1 <= len(codes) <= MOST_THREADS:
            raise NoProgram(f"a program has 1 to {MOST_THREADS} threads")
        limits = limits_of(len(codes), len(values))
        for code in codes:
            if len(code) > MOST_LINES:
                raise NoProgram(f"a thread has at most {MOST_LINES} lines")
            for line in code:
                if not is_line(limits, line):
                    raise NoProgram(f"this is no line of the program: {line!r}")
        self.many = len(codes)
        self.names = len(values)
        # Tuples, so that no list that is handed in or told is the program's own.
        self.firsts = tuple(values)
        self.codes = tuple([tuple(code) for code in codes])

    def first_values(self):
        return list(self.firsts)

    def code(self, thread):
        return list(self.codes[thread])

    def line(self, thread, number):
        if 0 <= thread < self.many and 0 <= number < len(self.codes[thread]):
            return self.codes[thread][number]
        return None
