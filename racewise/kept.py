"""Programs run in the kept order: states, the moves that lead from one to another, and runs of schedules."""

from racewise.errors import NoMove
from racewise.programs import LOCKS, OWN_NAMES


def begin(program):
    return (
        (0,) * program.many,
        ((0,) * OWN_NAMES,) * program.many,
        tuple(program.first_values()),
        (None,) * LOCKS,
        tuple([thread == 0 for thread in range(program.many)]),
    )


def ended(program, state, thread):
    return state[0][thread] >= len(program.code(thread))


def next_line(program, state, thread):
    return program.line(thread, state[0][thread])


def lets(program, state, thread, line):
    holders, awake = state[3:]
    if line[0] == "take":
        return holders[line[1]] is None
    if line[0] == "give":
        return holders[line[1]] == thread
    if line[0] == "fork":
        return not awake[line[1]]
    if line[0] == "wait":
        return awake[line[1]] and ended(program, state, line[1])
    return True


def may_move(program, state, thread):
    if not 0 <= thread < program.many:
        return False
    if not state[4][thread] or ended(program, state, thread):
        return False
    return lets(program, state, thread, next_line(program, state, thread))


def movers(program, state):
    return [thread for thread in range(program.many) if may_move(program, state, thread)]


def put(parts, place, part):
    return parts[:place] + (part,) + parts[place + 1:]


def value_of(own, value):
    kind, number = value
    return own[number] if kind == "own" else number


def is_so(own, one, test, other):
    if test == "==":
        return value_of(own, one) == value_of(own, other)
    return value_of(own, one) < value_of(own, other)


def reckoned(own, one, sign, other):
    if sign == "+":
        return value_of(own, one) + value_of(own, other)
    return value_of(own, one) - value_of(own, other)


def number_behind(line, number, own):
    if line[0] == "skip" and is_so(own, line[1], line[2], line[3]):
        return number + 1 + line[4]
    return number + 1


def own_behind(line, own, values):
    if line[0] == "read":
        return put(own, line[1], values[line[2]])
    if line[0] == "set":
        return put(own, line[1], reckoned(own, line[2], line[3], line[4]))
    return own


def values_behind(line, own, values):
    if line[0] == "write":
        return put(values, line[1], value_of(own, line[2]))
    return values


def holders_behind(line, thread, holders):
    if line[0] == "take":
        return put(holders, line[1], thread)
    if line[0] == "give":
        return put(holders, line[1], None)
    return holders


def awake_behind(line, awake):
    if line[0] == "fork":
        return put(awake, line[1], True)
    return awake


def moved(program, state, thread):
    if not may_move(program, state, thread):
        raise NoMove(f"thread {thread} may not move")
    line = next_line(program, state, thread)
    lines, owns, values, holders, awake = state
    own = owns[thread]
    return (
        put(lines, thread, number_behind(line, lines[thread], own)),
        put(owns, thread, own_behind(line, own, values)),
        values_behind(line, own, values),
        holders_behind(line, thread, holders),
        awake_behind(line, awake),
    )


def deed_of(program, state, thread):
    line = next_line(program, state, thread)
    if line[0] in ("set", "skip"):
        return None
    # A read names first where the value goes, all others first what they touch.
    return (thread, line[0], line[2] if line[0] == "read" else line[1])


def run(program, schedule):
    state = begin(program)
    deeds = []
    for thread in schedule:
        behind = moved(program, state, thread)
        deed = deed_of(program, state, thread)
        if deed is not None:
            deeds.append(deed)
        state = behind
    return (state, deeds)
