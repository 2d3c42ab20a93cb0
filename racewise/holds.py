"""The locks that threads hold, the names that these guard, and the pairs of deeds that none guards."""

from racewise.deeds import pairs_at_odds, touches


def held(row):
    holdings = [[] for thread in range(row.many)]
    told = []
    for thread, word, thing in row.deeds():
        told.append(sorted(holdings[thread]))
        if word == "take":
            holdings[thread].append(thing)
        if word == "give":
            holdings[thread].remove(thing)
    return told


def in_common(some, others):
    return [lock for lock in some if lock in others]


def guards(row, name):
    common = None
    for deed, locks in zip(row.deeds(), held(row)):
        if touches(deed, name):
            common = locks if common is None else in_common(common, locks)
    return common


def warned(row):
    locks = held(row)
    return [(one, other) for one, other in pairs_at_odds(row) if not in_common(locks[one], locks[other])]
