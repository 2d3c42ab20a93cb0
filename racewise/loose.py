"""Programs run in the loose order, in which writes wait in books until they are let out."""

from racewise.errors import NoMove
from racewise.kept import begin, may_move, moved, next_line, put, value_of
from racewise.search import ways

MOST_LOOSE = 1500
# These order what threads do, so no write of the thread may still wait when they are done.
WORDS_OF_ORDER = ("take", "give", "fork", "wait")


def loose_begin(program):
    return (begin(program), ((),) * program.many)


def may_do(program, loose, thread):
    state, books = loose
    if not may_move(program, state, thread):
        return False
    line = next_line(program, state, thread)
    if line[0] in WORDS_OF_ORDER and len(books[thread]) > 0:
        return False
    return line[0] != "wait" or len(books[line[1]]) == 0


def names_in(book):
    return [name for name, value in book]


def loose_moves(program, loose):
    told = [("do", thread) for thread in range(program.many) if may_do(program, loose, thread)]
    for thread, book in enumerate(loose[1]):
        told.extend([("out", thread, name) for name in sorted(set(names_in(book)))])
    return told


# The shared values as they look to the thread whose book it is: its newest writes hide what is shared.
def values_through(book, values):
    for name, value in book:
        values = put(values, name, value)
    return values


def with_values(state, values):
    return put(state, 2, values)


def book_behind(line, own, book):
    if line[0] == "write":
        return book + ((line[1], value_of(own, line[2])),)
    return book


def done(program, loose, thread):
    state, books = loose
    book = books[thread]
    line = next_line(program, state, thread)
    looked_at = with_values(state, values_through(book, state[2]))
    behind = with_values(moved(program, looked_at, thread), state[2])
    return (behind, put(books, thread, book_behind(line, state[1][thread], book)))


def let_out(loose, thread, name):
    state, books = loose
    book = books[thread]
    place = names_in(book).index(name)
    behind = with_values(state, put(state[2], name, book[place][1]))
    return (behind, put(books, thread, book[:place] + book[place + 1:]))


def loose_behind(program, loose, move):
    if move[0] == "do":
        return done(program, loose, move[1])
    return let_out(loose, move[1], move[2])


def loose_moved(program, loose, move):
    if move not in loose_moves(program, loose):
        raise NoMove(f"this move may not be: {move!r}")
    return loose_behind(program, loose, move)


def loose_steps(program, loose):
    return [(move, loose_behind(program, loose, move)) for move in loose_moves(program, loose)]


def loose_ends(program):
    all_loose = ways(loose_begin(program), lambda loose: loose_steps(program, loose), MOST_LOOSE)
    # A loose state without a move has empty books, so no two of them have the same state.
    return [loose[0] for loose in list(all_loose) if len(loose_moves(program, loose)) == 0]
