"""Rows and programs written as texts, and read from them."""

from racewise.deeds import WORDS, Row
from racewise.errors import NoText
from racewise.programs import PARTS, SIGNS, TESTS, Program

FIGURES = "0123456789"
MOST_FIGURES = 60

LETTERS = {"own": ("a", "b", "c"), "name": ("W", "X", "Y", "Z"), "lock": ("L", "M", "N")}

# By the word of a line how it is written: words as they stand, and the line's parts by their places in it.
FORMS = {
    "read": (1, "=", 2),
    "write": (1, "=", 2),
    "set": (1, "=", 2, 3, 4),
    "skip": ("skip", 4, "if", 1, 2, 3),
    "take": ("take", 1),
    "give": ("give", 1),
    "fork": ("fork", 1),
    "wait": ("wait", 1),
}


def is_number(text):
    if not 1 <= len(text) <= MOST_FIGURES:
        return False
    if text[0] == "0" and text != "0":
        return False
    return all([figure in FIGURES for figure in text])


def is_signed_number(text):
    if text.startswith("-"):
        return text != "-0" and is_number(text[1:])
    return is_number(text)


def show_deed(deed):
    thread, word, thing = deed
    return f"{thread} {word} {thing}"


def show_row(row):
    return "; ".join([str(row.many)] + [show_deed(deed) for deed in row.deeds()])


def read_deed(text):
    words = text.split(" ")
    if len(words) != 3 or words[1] not in WORDS or not is_number(words[0]) or not is_number(words[2]):
        raise NoText(f"this writes no deed: {text!r}")
    return (int(words[0]), words[1], int(words[2]))


def read_row(text):
    parts = text.split("; ")
    if not is_number(parts[0]):
        raise NoText("a row begins with its number of threads")
    return Row(int(parts[0]), [read_deed(part) for part in parts[1:]])


def show_part(kind, part):
    if kind in LETTERS:
        return LETTERS[kind][part]
    if kind == "value":
        return show_part(part[0], part[1])
    return str(part)


def is_written_part(kind, text):
    if kind in LETTERS:
        return text in LETTERS[kind]
    if kind == "value":
        return text in LETTERS["own"] or is_signed_number(text)
    if kind == "sign":
        return text in SIGNS
    if kind == "test":
        return text in TESTS
    return is_number(text)


def read_part(kind, text):
    if kind in LETTERS:
        return LETTERS[kind].index(text)
    if kind == "value":
        return read_value(text)
    if kind in ("sign", "test"):
        return text
    return int(text)


def read_value(text):
    if text in LETTERS["own"]:
        return ("own", LETTERS["own"].index(text))
    return ("number", int(text))


def show_line(line):
    kinds = PARTS[line[0]]
    words = []
    for piece in FORMS[line[0]]:
        words.append(piece if isinstance(piece, str) else show_part(kinds[piece - 1], line[piece]))
    return " ".join(words)


def is_written_line(word, words):
    if len(words) != len(FORMS[word]):
        return False
    for piece, text in zip(FORMS[word], words):
        if isinstance(piece, str):
            if text != piece:
                return False
        elif not is_written_part(PARTS[word][piece - 1], text):
            return False
    return True


def line_of_words(word, words):
    line = [word] + [None] * len(PARTS[word])
    for piece, text in zip(FORMS[word], words):
        if isinstance(piece, int):
            line[piece] = read_part(PARTS[word][piece - 1], text)
    return tuple(line)


def read_line(text):
    words = text.split(" ")
    for word in FORMS:
        if is_written_line(word, words):
            return line_of_words(word, words)
    raise NoText(f"this writes no line of a program: {text!r}")


def show_code(code):
    return ["thread"] + [show_line(line) for line in code]


def show_program(program):
    rows = [" ".join(["names"] + [str(value) for value in program.first_values()])]
    for thread in range(program.many):
        rows.extend(show_code(program.code(thread)))
    return "\n".join(rows)


def read_names(text):
    words = text.split(" ")
    if words[0] != "names" or not all([is_signed_number(word) for word in words[1:]]):
        raise NoText("a program begins with its first values")
    return [int(word) for word in words[1:]]


def read_codes(texts):
    codes = []
    for text in texts:
        if text == "thread":
            codes.append([])
        elif len(codes) == 0:
            raise NoText("a line of a program stands below its thread")
        else:
            codes[-1].append(read_line(text))
    return codes


def read_program(text):
    texts = text.split("\n")
    return Program(read_names(texts[0]), read_codes(texts[1:]))
