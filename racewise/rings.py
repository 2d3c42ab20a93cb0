"""Rings of locks: takes of unlike threads that could shut one another out."""

from racewise.holds import held, in_common


def takes(row):
    return [place for place, deed in enumerate(row.deeds()) if deed[1] == "take"]


def can_follow(row, locks, chain, place):
    if row.deed(chain[-1])[2] not in locks[place]:
        return False
    for other in chain:
        if row.deed(other)[0] == row.deed(place)[0] or in_common(locks[other], locks[place]):
            return False
    return True


def longer(row, locks, chain):
    return [chain + [place] for place in takes(row) if can_follow(row, locks, chain, place)]


# A chain of one never closes: nobody takes a lock while holding it.
def closes(row, locks, chain):
    return row.deed(chain[-1])[2] in locks[chain[0]]


def ring(row):
    locks = held(row)
    chains = [[place] for place in takes(row)]
    while chains:
        chain = chains.pop()
        if closes(row, locks, chain):
            return chain
        chains.extend(longer(row, locks, chain))
    return None
