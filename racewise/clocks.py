"""Which deed of a row is ahead of which, told by clocks."""


def joined(one, other):
    return [max(mine, yours) for mine, yours in zip(one, other)]


def clocks(row):
    # By thread the clock that its next deed builds on: that of its last deed or else of its fork.
    # A wait joins it too, so that the fork is ahead of it where the thread has done nothing.
    reached = [[0] * row.many for thread in range(row.many)]
    # The last give of a lock is enough: all earlier ones are ahead of it by the takes between.
    given = {}
    told = []
    for thread, word, thing in row.deeds():
        clock = list(reached[thread])
        if word == "take" and thing in given:
            clock = joined(clock, given[thing])
        if word == "wait":
            clock = joined(clock, reached[thing])
        clock[thread] += 1
        reached[thread] = clock
        if word == "give":
            given[thing] = clock
        if word == "fork":
            reached[thing] = clock
        told.append(clock)
    return told


# With the clocks handed in, so that one who asks of many pairs has them told once.
def reaches(row, told, one, other):
    # The clocks alone would tell each deed ahead of itself.
    if one == other:
        return False
    thread = row.deed(one)[0]
    return told[other][thread] >= told[one][thread]


def ahead(row, one, other):
    return reaches(row, clocks(row), one, other)
