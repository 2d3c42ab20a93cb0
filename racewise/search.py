"""All that steps lead to from a first thing on, each with the steps of a way that leads there."""

from racewise.errors import TooGreat


# Steps are told as pairs, of what is done and of the thing that it leads to. What is nearer is come to first, so that
# the ways are as short as can be.
def ways(first, steps, most):
    told = {first: ()}
    waiting = [first]
    while waiting:
        thing = waiting.pop(0)
        for step, behind in steps(thing):
            if behind not in told:
                told[behind] = told[thing] + (step,)
                waiting.append(behind)
        if len(told) > most:
            raise TooGreat(f"there are more than {most} states")
    return told
