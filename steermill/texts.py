"""Texts of tables: rows parted by a semicolon and a space, numbers by a space."""

from steermill.errors import NoText
from steermill.numbers import fraction, number

BETWEEN_ROWS = "; "
BETWEEN_NUMBERS = " "
STROKE = "/"
FIGURES = "0123456789"
MOST_FIGURES = 20
MOST_ROWS = 12
MOST_COLUMNS = 12


def show_whole(whole):
    """The figures of a whole number, and a - ahead of one below 0."""
    # Python's own way may be shut for some thousands of figures at once, so that they are shown stretch by stretch.
    stretch = 10 ** 64
    left = abs(whole)
    told = ""
    while left >= stretch:
        told = str(left % stretch).zfill(64) + told
        left = left // stretch
    sign = "-" if whole < 0 else ""
    return sign + str(left) + told


def show_number(kind, told):
    """The number's text: a fraction's bottom is shown where it is not 1."""
    if kind != 0:
        return show_whole(told)
    if told[1] == 1:
        return show_whole(told[0])
    return show_whole(told[0]) + STROKE + show_whole(told[1])


def show_table(kind, table):
    """The table's text."""
    rows = [BETWEEN_NUMBERS.join([show_number(kind, part) for part in row]) for row in table]
    return BETWEEN_ROWS.join(rows)


def read_whole(word):
    """The whole number that figures tell, perhaps with a - or noughts ahead."""
    figures = word[1:] if word.startswith("-") else word
    if not 1 <= len(figures) <= MOST_FIGURES or any([sign not in FIGURES for sign in figures]):
        raise NoText("no figures, too many, or other signs than figures")
    return int(word)


def read_fraction(word):
    """The fraction that a word tells in some form."""
    halves = word.partition(STROKE)
    bottom = read_whole(halves[2]) if halves[1] == STROKE else 1
    if bottom < 1:
        raise NoText("a bottom that is not above 0")
    return fraction(read_whole(halves[0]), bottom)


def read_number(kind, word):
    """The number that a word tells in its one form."""
    told = read_fraction(word) if kind == 0 else number(kind, read_whole(word))
    # Whatever is not written in its form (noughts ahead, -0, 2/4, a rest not below P) is shown otherwise.
    if show_number(kind, told) != word:
        raise NoText("a number that is not in its form")
    return told


def read_table(kind, text):
    """The table that a text tells."""
    if not isinstance(text, str):
        raise NoText("no text")
    table = [[read_number(kind, word) for word in row.split(BETWEEN_NUMBERS)] for row in text.split(BETWEEN_ROWS)]
    width = len(table[0])
    if len(table) > MOST_ROWS or width > MOST_COLUMNS:
        raise NoText("too many rows or columns")
    if any([len(row) != width for row in table]):
        raise NoText("rows of unlike counts")
    return table
