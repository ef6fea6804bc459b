"""The desk: machines by names, told and asked for by rows of text."""

from steermill.errors import NoName, NoRow, NoText
from steermill.least import first_apart
from steermill.machines import run
from steermill.parts import core
from steermill.rules import rest_rule
from steermill.seeing import unseen_room
from steermill.steering import steered_room
from steermill.texts import read_table, show_table

# How many words follow the first one; the last of machine's and of run's is all that follows, with its spaces.
FOLLOWED_BY = {"kind": 1, "steered": 1, "unseen": 1, "rest": 1, "core": 2, "alike": 2, "machine": 2, "run": 2}
KINDS = (0, 2, 3, 5, 7, 11, 13, 17, 19, 23, 29, 31, 37, 41, 43, 47, 53, 59, 61, 67, 71, 73, 79, 83, 89, 97)
LETTERS = "abcdefghijklmnopqrstuvwxyz"
MOST_LETTERS = 8
MOST_NUMBERS = 5
MOST_HANDS = 3
MOST_SIGHTS = 3
BETWEEN_TEXTS = " | "


def words_of(row):
    """The words of a row that a desk knows."""
    if not isinstance(row, str):
        raise NoRow("no text")
    first = row.partition(" ")[0]
    words = row.split(" ", 2) if first in ("machine", "run") else row.split(" ")
    if first not in FOLLOWED_BY or len(words) != 1 + FOLLOWED_BY[first]:
        raise NoRow("a row that no desk knows")
    return words


def names_among(words):
    """Those of the words that should be names of machines."""
    if words[0] == "kind":
        return []
    return words[1:2] if words[0] in ("machine", "run") else words[1:]


def is_name(word):
    """Whether the word can be a machine's name."""
    return 1 <= len(word) <= MOST_LETTERS and all([sign in LETTERS for sign in word])


def read_kind(word):
    """The kind that a word tells."""
    told = [kind for kind in KINDS if str(kind) == word]
    if len(told) == 0:
        raise NoText("no kind")
    return told[0]


def read_tables(kind, text, many):
    """The tables of just so many texts."""
    texts = text.split(BETWEEN_TEXTS)
    if len(texts) != many:
        raise NoText("too few texts, or too many")
    return [read_table(kind, part) for part in texts]


def has_sizes(table, rows, columns):
    """Whether the table has so many rows and columns."""
    return len(table) == rows and len(table[0]) == columns


def read_machine(kind, text):
    """The machine that three texts of tables tell."""
    tables = read_tables(kind, text, 3)
    n = len(tables[0])
    hands = len(tables[1][0])
    sights = len(tables[2])
    if n > MOST_NUMBERS or hands > MOST_HANDS or sights > MOST_SIGHTS:
        raise NoText("too many numbers, hands or sights")
    if not has_sizes(tables[0], n, n) or not has_sizes(tables[1], n, hands) or not has_sizes(tables[2], sights, n):
        raise NoText("tables of sizes that make no machine")
    return tuple(tables)


def are_alike(kind, one, other):
    """Whether both machines have as many hands and sights and all marks the same."""
    if len(one[1][0]) != len(other[1][0]) or len(one[2]) != len(other[2]):
        return False
    return first_apart(kind, one, other) is None


class Desk:
    """A kind, and machines of that kind by their names."""

    def __init__(self):
        self.kind = 0
        self.machines = {}

    def say(self, row):
        """The answer to a row."""
        words = words_of(row)
        self.refuse_names(words)
        if words[0] == "kind":
            return self.change_kind(words[1])
        if words[0] == "machine":
            return self.keep_machine(words[1], words[2])
        if words[0] == "core":
            return self.keep_core(words[1], words[2])
        if words[0] == "alike":
            return "yes" if are_alike(self.kind, self.machines[words[1]], self.machines[words[2]]) else "no"
        return self.tell_of(self.machines[words[1]], words)

    def refuse_names(self, words):
        """Refuses a row with a word that should name a machine and names none."""
        for place, word in enumerate(names_among(words)):
            is_new = place == 0 and words[0] in ("machine", "core")
            if not is_name(word) or not is_new and word not in self.machines:
                raise NoName("no name, or one by which nothing stands")

    def change_kind(self, word):
        """From now on the desk is of this kind, and has no machines."""
        self.kind = read_kind(word)
        self.machines = {}
        return "ok"

    def keep_machine(self, name, text):
        """From now on the machine that the text tells stands by this name."""
        self.machines[name] = read_machine(self.kind, text)
        return "ok"

    def keep_core(self, new, name):
        """From now on the core of the named machine stands by the new name, if it has numbers."""
        found = core(self.kind, self.machines[name])
        if found[0] == "none":
            return "nothing"
        self.machines[new] = found[1]
        return "ok"

    def tell_of(self, machine, words):
        """What is asked of one machine."""
        if words[0] == "steered":
            return str(len(steered_room(self.kind, machine)))
        if words[0] == "unseen":
            return str(len(unseen_room(self.kind, machine)))
        if words[0] == "rest":
            return self.tell_rest(machine)
        return self.tell_run(machine, words[2])

    def tell_rest(self, machine):
        """The rule by which the machine comes to rest, if it can be steered anywhere."""
        found = rest_rule(self.kind, machine)
        return show_table(self.kind, found[1]) if found[0] == "rule" else "never"

    def tell_run(self, machine, text):
        """What is seen in a run from the told start with the told inputs."""
        tables = read_tables(self.kind, text, 2)
        start = tables[0]
        inputs = tables[1]
        if not has_sizes(start, 1, len(machine[0])) or len(inputs[0]) != len(machine[1][0]):
            raise NoText("a start or inputs that do not fit the machine")
        return show_table(self.kind, run(self.kind, machine, start[0], inputs))
