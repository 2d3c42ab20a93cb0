"""A desk, at which a program is walked and asked about in words."""

from racewise.deeds import Row
from racewise.errors import NoWords
from racewise.kept import begin, deed_of, moved, movers, run
from racewise.looks import clash, ends, is_stuck
from racewise.loose import loose_ends
from racewise.races import races
from racewise.texts import is_number, read_program, show_row


def words_of(parts):
    return " ".join([str(part) for part in parts])


def or_none(text):
    return "-" if text == "" else text


def words_of_deed(deed):
    return "-" if deed is None else words_of(deed[1:])


def words_of_races(pairs):
    return or_none(words_of([f"{one}-{other}" for one, other in pairs]))


def words_of_clash(found):
    if found is None:
        return "yes"
    schedule, one, other = found
    return words_of(["no"] + schedule + [one, other])


def words_of_ends(program):
    stuck = [is_stuck(program, state) for state in ends(program)]
    return words_of([stuck.count(False), stuck.count(True)])


def is_alike(program):
    return set(ends(program)) == set(loose_ends(program))


class Desk:
    def __init__(self, text):
        self.program = read_program(text)
        self.state = begin(self.program)
        self.schedule = []

    def say(self, row):
        words = row.split(" ")
        if len(words) == 2 and words[0] == "move" and is_number(words[1]):
            return self.move(int(words[1]))
        if row == "again":
            return self.again()
        return self.answer(row)

    def move(self, thread):
        behind = moved(self.program, self.state, thread)
        deed = deed_of(self.program, self.state, thread)
        self.state = behind
        self.schedule.append(thread)
        return words_of_deed(deed)

    def again(self):
        self.state = begin(self.program)
        self.schedule = []
        return "ok"

    def walked(self):
        return Row(self.program.many, run(self.program, self.schedule)[1])

    def answer(self, row):
        if row == "may":
            return or_none(words_of(movers(self.program, self.state)))
        if row == "values":
            return words_of(self.state[2])
        if row == "row":
            return show_row(self.walked())
        if row == "races":
            return words_of_races(races(self.walked()))
        if row == "free":
            return words_of_clash(clash(self.program))
        if row == "ends":
            return words_of_ends(self.program)
        if row == "alike":
            return "yes" if is_alike(self.program) else "no"
        raise NoWords(f"these words are none that a desk knows: {row!r}")
