"""What the tests share: kinds, numbers by dice with a fixed seed, and a plain reckoning to hold answers against.

The reckoning here uses Python's own fractions and rests, and nothing of the program.
"""

from fractions import Fraction
from itertools import product as all_choices
from math import gcd
from random import Random

KINDS = (0, 2, 3, 7, 31, 89, 97)
SMALL_PRIMES = (2, 3, 5)
PRIMES = [prime for prime in range(2, 100) if all(prime % part for part in range(2, prime))]


def dice(name):
    return Random(name)


def plain(kind, number):
    """A number of the program as Python reckons with it."""
    return Fraction(number[0], number[1]) if kind == 0 else number


def told(kind, value):
    """A whole number or a Fraction as a number of the program."""
    if kind == 0:
        value = Fraction(value)
        return (value.numerator, value.denominator)
    return value % kind


def row_of(kind, *values):
    return [told(kind, value) for value in values]


def table_of(kind, *rows):
    return [row_of(kind, *row) for row in rows]


def is_whole(value):
    return isinstance(value, int) and not isinstance(value, bool)


def in_form(kind, number):
    if kind != 0:
        return is_whole(number) and 0 <= number < kind
    return (isinstance(number, tuple) and len(number) == 2 and is_whole(number[0]) and is_whole(number[1])
            and number[1] > 0 and gcd(number[0], number[1]) == 1)


def rows_in_form(kind, rows, width):
    """Whether this is a list of lists, each of so many numbers in the one form."""
    return isinstance(rows, list) and all(
        isinstance(row, list) and len(row) == width and all(in_form(kind, x) for x in row) for row in rows)


def by_dice(dice_box, kind, figures=3):
    """A number; nought and one come up more often than others."""
    if dice_box.random() < 0.25:
        return told(kind, dice_box.randint(0, 1))
    if kind != 0:
        return dice_box.randrange(kind)
    most = 10 ** figures - 1
    return told(0, Fraction(dice_box.randint(-most, most), dice_box.randint(1, most)))


def table_by_dice(dice_box, kind, rows, columns, figures=3):
    return [[by_dice(dice_box, kind, figures) for _ in range(columns)] for _ in range(rows)]


def thin_by_dice(dice_box, kind, rows, columns, rank):
    """Rows that are sums of multiples of `rank` rows, so that there are told ones less."""
    few = table_by_dice(dice_box, kind, rank, columns)
    return [combined(kind, [by_dice(dice_box, kind) for _ in range(rank)], few, columns) for _ in range(rows)]


def combined(kind, factors, rows, width):
    """The sum of these multiples of the rows."""
    return [told(kind, sum((plain(kind, f) * plain(kind, row[k]) for f, row in zip(factors, rows)), 0))
            for k in range(width)]


def dot(kind, one, other):
    assert len(one) == len(other)
    return told(kind, sum((plain(kind, x) * plain(kind, y) for x, y in zip(one, other)), 0))


def columns_of(table):
    return [list(column) for column in zip(*table)]


def plain_product(kind, one, other):
    return [[dot(kind, row, column) for column in columns_of(other)] for row in one]


def unit_table(kind, size):
    return [[told(kind, 1 if i == k else 0) for k in range(size)] for i in range(size)]


def noughts(kind, width):
    return [told(kind, 0)] * width


def plain_over(kind, one, other):
    return one / other if kind == 0 else one * pow(other, -1, kind) % kind


def rank(kind, rows):
    """How many rows are left when those that follow from others are taken away."""
    left = [[plain(kind, x) for x in row] for row in rows]
    count = 0
    for column in range(len(left[0]) if left else 0):
        leading = [row for row in left if row[column] != 0]
        if not leading:
            continue
        count += 1
        head = leading[0]
        left = [row for row in left if row[column] == 0]
        for row in leading[1:]:
            factor = plain_over(kind, row[column], head[column])
            rest = [x - factor * y for x, y in zip(row, head)]
            left.append([x % kind for x in rest] if kind else rest)
    return count


def is_reduced(kind, rows):
    """Whether the rows stand in the reduced form, by its own words."""
    nought, one = told(kind, 0), told(kind, 1)
    leads = []
    for row in rows:
        places = [k for k, x in enumerate(row) if x != nought]
        if not places or row[places[0]] != one:
            return False
        leads.append(places[0])
    if any(left >= right for left, right in zip(leads, leads[1:])):
        return False
    return all(sum(row[k] != nought for row in rows) == 1 for k in leads)


def all_of_room(prime, rows, width):
    """Each row that the rows stand for, as a set of tuples."""
    return {tuple(combined(prime, factors, rows, width)) for factors in all_choices(range(prime), repeat=len(rows))}


def lists_within(value):
    """All lists in a value, itself among them."""
    found = [value] if isinstance(value, list) else []
    if isinstance(value, (list, tuple)):
        for part in value:
            found.extend(lists_within(part))
    return found


def plain_cleared(kind, row, head, column):
    """The row less a multiple of the head, so that nought stands in the column."""
    return [plain(kind, told(kind, x - row[column] * y)) for x, y in zip(row, head)]


def plain_reduced(kind, rows):
    """The reduced form, reckoned column by column with Python's own numbers."""
    left = [[plain(kind, x) for x in row] for row in rows]
    done = []
    for column in range(len(left[0]) if left else 0):
        leading = [row for row in left if row[column] != 0]
        if not leading:
            continue
        left.remove(leading[0])
        head = [plain_over(kind, x, leading[0][column]) for x in leading[0]]
        left = [plain_cleared(kind, row, head, column) for row in left]
        done = [plain_cleared(kind, row, head, column) for row in done] + [head]
    return [[told(kind, x) for x in row] for row in done]


def plain_back(kind, table):
    """The back of a table that has one."""
    size = len(table)
    both = plain_reduced(kind, [row + line for row, line in zip(table, unit_table(kind, size))])
    return [row[size:] for row in both]


def turn_by_dice(dice_box, kind, size, figures=1):
    """A turn: a pair T, S of tables whose product S T is the unit."""
    while True:
        table = table_by_dice(dice_box, kind, size, size, figures)
        if rank(kind, table) == size:
            return table, plain_back(kind, table)


def row_by_dice(dice_box, kind, width, figures=3):
    return [by_dice(dice_box, kind, figures) for _ in range(width)]


def machine_by_dice(dice_box, kind, n, hands, sights, figures=1):
    return (table_by_dice(dice_box, kind, n, n, figures), table_by_dice(dice_box, kind, n, hands, figures),
            table_by_dice(dice_box, kind, sights, n, figures))


def nought_machine(kind, n, hands, sights):
    return tuple([noughts(kind, columns) for _ in range(rows)] for rows, columns in ((n, n), (n, hands), (sights, n)))


def chain_machine(kind, sizes):
    """A machine of one hand and two sights whose four parts have just these sizes.

    The hand puts into the first of a chain of a + b numbers, each handed on to the next, the first sight sees the
    b-th of it; no hand puts into a second chain of c + d numbers, the second sight sees the d-th of that.
    """
    a, b, c, d = sizes
    n = a + b + c + d
    A, B, C = nought_machine(kind, n, 1, 2)
    one = told(kind, 1)
    for start, end in ((0, a + b), (a + b, n)):
        for k in range(start, end - 1):
            A[k + 1][k] = one
    if a + b > 0:
        B[0][0] = one
    if b > 0:
        C[0][b - 1] = one
    if d > 0:
        C[1][a + b + d - 1] = one
    return (A, B, C)


def all_sizes(most):
    """Each tuple of four sizes that come to one or more, and to at most so many."""
    return [sizes for sizes in all_choices(range(most + 1), repeat=4) if 1 <= sum(sizes) <= most]


def parted_by_dice(dice_box, kind, sizes, hands, sights, figures=1):
    """A machine with noughts wherever parts of these sizes ask for them, and else drawn numbers."""
    parts = [part for part, size in enumerate(sizes) for _ in range(size)]
    barred = ((1, 0), (1, 2), (2, 0), (2, 1), (3, 0), (3, 1), (3, 2))
    A = [[told(kind, 0) if (row, column) in barred else by_dice(dice_box, kind, figures) for column in parts]
         for row in parts]
    B = [noughts(kind, hands) if row >= 2 else row_by_dice(dice_box, kind, hands, figures) for row in parts]
    C = [[told(kind, 0) if column in (0, 2) else by_dice(dice_box, kind, figures) for column in parts]
         for _ in range(sights)]
    return (A, B, C)


MACHINE_SIZES = ((1, 1, 1), (1, 3, 2), (2, 1, 1), (2, 2, 3), (3, 1, 2), (3, 3, 1), (4, 1, 1), (4, 2, 2), (5, 1, 1),
                 (5, 1, 3), (5, 2, 1), (5, 3, 3))
PART_SIZES = ((1, 1, 1, 1), (2, 1, 1, 1), (1, 2, 1, 1), (1, 1, 2, 1), (1, 1, 1, 2), (0, 2, 1, 1), (2, 0, 1, 1),
              (1, 2, 0, 1), (1, 2, 1, 0), (0, 3, 0, 2), (2, 2, 0, 0), (0, 0, 2, 2), (0, 2, 2, 0), (2, 0, 0, 3),
              (0, 0, 3, 0), (3, 0, 0, 0), (0, 0, 0, 4), (0, 1, 1, 1), (0, 1, 0, 0), (0, 5, 0, 0), (0, 2, 0, 0),
              (1, 0, 0, 1), (1, 1, 1, 0), (0, 3, 0, 0), (1, 0, 2, 1), (1, 3, 0, 1), (1, 0, 3, 1))


def machines_of(name, kinds=KINDS):
    """Pairs of a kind and a machine: drawn ones, ones of noughts, and ones in parts, as they stand and turned."""
    box = dice(name)
    for kind in kinds:
        for n, hands, sights in MACHINE_SIZES:
            yield kind, machine_by_dice(box, kind, n, hands, sights)
            yield kind, nought_machine(kind, n, hands, sights)
        for sizes in PART_SIZES:
            yield kind, chain_machine(kind, sizes)
            machine = parted_by_dice(box, kind, sizes, box.randint(1, 3), box.randint(1, 3))
            yield kind, machine
            yield kind, plain_turned_by(kind, machine, *turn_by_dice(box, kind, sum(sizes)))


def small_machines(prime, n, hands, sights, count):
    """One of noughts and so many drawn ones, to go through all standings with."""
    box = dice("small machines")
    drawn = [machine_by_dice(box, prime, n, hands, sights) for _ in range(count)]
    return [nought_machine(prime, n, hands, sights)] + drawn


def sizes_of(machine):
    """How many numbers, hands and sights a machine has."""
    return len(machine[0]), len(machine[1][0]), len(machine[2])


def plain_image(kind, table, row):
    return [dot(kind, line, row) for line in table]


def plain_sum(kind, one, other):
    return [told(kind, plain(kind, x) + plain(kind, y)) for x, y in zip(one, other, strict=True)]


def plain_less(kind, one, other):
    return [told(kind, plain(kind, x) - plain(kind, y)) for x, y in zip(one, other, strict=True)]


def plain_next(kind, machine, standing, inputs):
    return plain_sum(kind, plain_image(kind, machine[0], standing), plain_image(kind, machine[1], inputs))


def plain_end(kind, machine, standing, inputs):
    """The standing behind the last turn."""
    for put_in in inputs:
        standing = plain_next(kind, machine, standing, put_in)
    return standing


def plain_run(kind, machine, standing, inputs):
    return [plain_image(kind, machine[2], plain_end(kind, machine, standing, inputs[:k]))
            for k in range(len(inputs) + 1)]


def resting(kind, machine, turns):
    """Inputs of noughts."""
    return [noughts(kind, len(machine[1][0])) for _ in range(turns)]


def plain_powers(kind, table, many):
    """The unit, the table, its product with itself and so on."""
    powers = [unit_table(kind, len(table))]
    while len(powers) < many:
        powers.append(plain_product(kind, powers[-1], table))
    return powers[:many]


def plain_marks(kind, machine, many):
    return [plain_product(kind, plain_product(kind, machine[2], power), machine[1])
            for power in plain_powers(kind, machine[0], many)]


def pushed_columns(kind, machine, many):
    """The columns of B, A B, A A B and so on, of so many tables."""
    return [column for power in plain_powers(kind, machine[0], many)
            for column in columns_of(plain_product(kind, power, machine[1]))]


def pulled_rows(kind, machine, many):
    """The rows of C, C A, C A A and so on, of so many tables."""
    return [row for power in plain_powers(kind, machine[0], many) for row in plain_product(kind, machine[2], power)]


def plain_steered(kind, machine):
    return plain_reduced(kind, pushed_columns(kind, machine, len(machine[0])))


def is_room_against(kind, room, rows, width):
    """Whether this is the room of all rows that go against the told ones."""
    return (rows_in_form(kind, room, width) and is_reduced(kind, room) and len(room) == width - rank(kind, rows)
            and all(dot(kind, row, other) == told(kind, 0) for row in room for other in rows))


def wanted_sizes(kind, machine):
    """The four sizes, by how many rows the steered and the unseen room have, apart and together."""
    n = len(machine[0])
    steered = plain_steered(kind, machine)
    pulled = pulled_rows(kind, machine, n)
    # As many of the steered room are seen as its rows are told apart by what is seen.
    seen = rank(kind, plain_product(kind, pulled, columns_of(steered))) if steered else 0
    unseen = n - rank(kind, pulled)
    a = len(steered) - seen
    return (a, seen, unseen - a, n - len(steered) - unseen + a)


def plain_turned_by(kind, machine, T, S):
    A, B, C = machine
    return (plain_product(kind, plain_product(kind, S, A), T), plain_product(kind, S, B), plain_product(kind, C, T))


def is_machine(kind, machine, n, hands, sights):
    """Whether this is a tuple of three tables of these sizes with numbers in the one form."""
    return (isinstance(machine, tuple) and len(machine) == 3
            and all(rows_in_form(kind, table, width) and len(table) == height for table, height, width in
                    zip(machine, (n, n, sights), (n, hands, n))))


def plain_minor_step(kind, table, row, minors):
    """Of the determinants of the rows ahead, by the columns they use, those with this row taken in too."""
    wider = {}
    for used, poly in minors.items():
        for column in range(len(table)):
            if column not in used:
                sign = -1 if sum(place > column for place in used) % 2 else 1
                entry = [-plain(kind, table[row][column]), 1 if column == row else 0]
                sums = wider.setdefault(used | {column}, [0] * (row + 2))
                for power, factor in enumerate(poly):
                    for more, part in enumerate(entry):
                        sums[power + more] += sign * factor * part
    return {used: [plain(kind, told(kind, x)) for x in sums] for used, sums in wider.items()}


def plain_great(kind, table):
    """The determinant of the unknown less the table, opened up row by row over all choices of columns."""
    minors = {frozenset(): [1]}
    for row in range(len(table)):
        minors = plain_minor_step(kind, table, row, minors)
    return [told(kind, x) for x in minors[frozenset(range(len(table)))]]


def poly_by_dice(dice_box, kind, degree, figures=3):
    return row_by_dice(dice_box, kind, degree, figures) + [told(kind, 1)]


def to_rest(kind, n):
    """The polynomial of degree n whose numbers but the last are nought."""
    return noughts(kind, n) + [told(kind, 1)]


def poly_product(kind, one, other):
    sums = [0] * (len(one) + len(other) - 1)
    for low, x in enumerate(one):
        for more, y in enumerate(other):
            sums[low + more] += plain(kind, x) * plain(kind, y)
    return [told(kind, x) for x in sums]


def poly_rest(kind, one, other):
    """What is left of the first polynomial by the second, of fewer numbers than that; [] where nothing is."""
    left = [plain(kind, x) for x in one]
    by = [plain(kind, x) for x in other]
    while len(left) >= len(by):
        factor = plain_over(kind, left[-1], by[-1])
        shift = len(left) - len(by)
        left = [plain(kind, told(kind, x - factor * by[k - shift])) if k >= shift else x for k, x in enumerate(left)]
        while left and left[-1] == 0:
            left.pop()
    return [told(kind, x) for x in left]


def plain_table_sum(kind, one, other):
    return [plain_sum(kind, left, right) for left, right in zip(one, other, strict=True)]


def plain_ruled(kind, machine, F):
    """A plus B F."""
    return plain_table_sum(kind, machine[0], plain_product(kind, machine[1], F))


def plain_watched(kind, machine, L):
    """A plus L C."""
    return plain_table_sum(kind, machine[0], plain_product(kind, L, machine[2]))


def mirror_of(machine):
    """The machine with hands for sights and sights for hands."""
    return columns_of(machine[0]), columns_of(machine[2]), columns_of(machine[1])


def in_corners(kind, one, other):
    """The table with these two tables along the diagonal, and else noughts."""
    return ([row + noughts(kind, len(other[0])) for row in one]
            + [noughts(kind, len(one[0])) + row for row in other])


def handed_on(kind, n, row, hands, sights):
    """A machine that is steered and seen in whole: each number is handed on to the next, the last by the told row."""
    A = [[told(kind, 1) if column == place + 1 else told(kind, 0) for column in range(n)] for place in range(n)]
    A[n - 1] = list(row)
    B = [noughts(kind, hands) for _ in range(n)]
    B[n - 1][0] = told(kind, 1)
    C = [noughts(kind, n) for _ in range(sights)]
    C[0][0] = told(kind, 1)
    return (A, B, C)


def whole_machines(name, kinds=KINDS, most=5):
    """Pairs of a kind and a machine that is steered and seen in whole, of each count of numbers, hands and sights."""
    box = dice(name)
    for kind in kinds:
        for n, hands, sights in all_choices(range(1, most + 1), (1, 2, 3), (1, 2, 3)):
            yield kind, whole_by_dice(box, kind, n, hands, sights)


def whole_by_dice(dice_box, kind, n, hands, sights):
    """A turned machine, steered and seen in whole; of the further hands and sights some may do without the first."""
    A, B, C = handed_on(kind, n, row_by_dice(dice_box, kind, n, 1), hands, sights)
    for row in B:
        row[1:] = row_by_dice(dice_box, kind, hands - 1, 1)
    C[1:] = table_by_dice(dice_box, kind, sights - 1, n, 1)
    return plain_turned_by(kind, (A, B, C), *turn_by_dice(dice_box, kind, n))


def split_machine(kind, lengths):
    """Chains of these lengths, each with a hand and a sight of its own, so that no one hand steers more than one."""
    n, many = sum(lengths), len(lengths)
    A, B, C = nought_machine(kind, n, many, many)
    start = 0
    for chain, length in enumerate(lengths):
        for place in range(start, start + length - 1):
            A[place + 1][place] = told(kind, 1)
        B[start][chain] = told(kind, 1)
        C[chain][start + length - 1] = told(kind, 1)
        start += length
    return (A, B, C)


SPLITS = ((1, 1), (1, 1, 1), (2, 1), (1, 2), (2, 2), (1, 2, 1), (2, 3), (4, 1), (2, 2, 1), (1, 1, 3), (1, 3, 1))


def split_machines(name, kinds=KINDS):
    """Pairs of a kind and a machine of several chains, as it stands and turned."""
    box = dice(name)
    for kind in kinds:
        for lengths in SPLITS:
            machine = split_machine(kind, lengths)
            yield kind, machine
            yield kind, plain_turned_by(kind, machine, *turn_by_dice(box, kind, sum(lengths)))


def rule_by_dice(dice_box, kind, machine, figures=1):
    n, hands, sights = sizes_of(machine)
    return table_by_dice(dice_box, kind, hands, n, figures)


def watcher_by_dice(dice_box, kind, machine, figures=1):
    n, hands, sights = sizes_of(machine)
    return table_by_dice(dice_box, kind, n, sights, figures)


def plain_kernel(kind, rows, width):
    """Rows of so many numbers, as many as there can be, that go against all the told ones."""
    done = plain_reduced(kind, rows)
    leads = [next(k for k, x in enumerate(row) if x != told(kind, 0)) for row in done]
    found = []
    for free in [k for k in range(width) if k not in leads]:
        row = unit_table(kind, width)[free]
        for lead, line in zip(leads, done):
            row[lead] = told(kind, -plain(kind, line[free]))
        found.append(row)
    return found


def plain_text(kind, table):
    """A table's text, by Python's own way to show fractions and whole numbers."""
    return "; ".join(" ".join(str(plain(kind, x)) for x in row) for row in table)


def machine_text(kind, machine):
    return " | ".join(plain_text(kind, table) for table in machine)
