"""The refusals of the program, each by a class of its own."""


class RaceError(ValueError):
    pass


class NoRow(RaceError):
    pass


class NoWeaving(RaceError):
    pass


class NoRace(RaceError):
    pass


class NoProgram(RaceError):
    pass


class NoMove(RaceError):
    pass


class TooGreat(RaceError):
    pass


class NoText(RaceError):
    pass


class NoWords(RaceError):
    pass
