"""Programs looked through state by state: all states, the ends, why threads may not move, and clashes."""

from racewise.deeds import at_odds
from racewise.kept import begin, deed_of, ended, may_move, moved, movers, next_line
from racewise.search import ways

MOST_STATES = 400


def steps_of(program, state):
    return [(thread, moved(program, state, thread)) for thread in movers(program, state)]


# By state a schedule that leads there.
def schedules(program):
    return ways(begin(program), lambda state: steps_of(program, state), MOST_STATES)


def states(program):
    return list(schedules(program))


def ends(program):
    return [state for state in states(program) if len(movers(program, state)) == 0]


# The threads that have a next line that they are awake to do, whether they may or not.
def at_work(program, state):
    return [thread for thread in range(program.many) if state[4][thread] and not ended(program, state, thread)]


def is_stuck(program, state):
    return len(movers(program, state)) == 0 and len(at_work(program, state)) > 0


def reason_of_line(state, line):
    if line[0] == "take":
        return ("lock", line[1], state[3][line[1]])
    if line[0] == "wait":
        return ("wait", line[1])
    return ("never",)


def reason(program, state, thread):
    if thread not in at_work(program, state) or may_move(program, state, thread):
        return None
    return reason_of_line(state, next_line(program, state, thread))


def reasons(program, state):
    return [reason(program, state, thread) for thread in range(program.many)]


def next_deeds(program, state):
    deeds = [deed_of(program, state, thread) for thread in at_work(program, state)]
    return [deed for deed in deeds if deed is not None]


def clash_in(program, state):
    deeds = next_deeds(program, state)
    for place, one in enumerate(deeds):
        for other in deeds[place + 1:]:
            if at_odds(one, other):
                return (one[0], other[0])
    return None


def clash(program):
    for state, schedule in schedules(program).items():
        found = clash_in(program, state)
        if found is not None:
            return (list(schedule), found[0], found[1])
    return None
