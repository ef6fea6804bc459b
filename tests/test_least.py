"""[19] Machines read off marks; [20] machines compared; [3] least machines of the same marks differ by one turn."""

import unittest
from itertools import product as all_choices

from steermill.least import compared, read_off
from steermill.machines import turned_by
from steermill.parts import core
from tests.helper import (KINDS, SMALL_PRIMES, all_sizes, chain_machine, columns_of, dice, handed_on, is_machine,
                          machine_by_dice, machines_of, nought_machine, noughts, plain_marks, plain_product,
                          plain_steered, plain_sum, plain_turned_by, pulled_rows, rank, row_by_dice, rows_in_form,
                          sizes_of, split_machines, table_by_dice, table_of, told, turn_by_dice, unit_table,
                          whole_by_dice, whole_machines)


def blocks(marks, rows, columns):
    """The table of so many rows and columns of marks, where row i and column j have the mark number i + j."""
    return [[x for column in range(columns) for x in marks[row + column][line]]
            for row in range(rows) for line in range(len(marks[0]))]


def least_count(kind, marks):
    """How many numbers the least machine of these 2 N marks has, or None where it has more than N."""
    half = len(marks) // 2
    counts = {rank(kind, blocks(marks, rows, columns))
              for rows, columns in ((half, half), (half + 1, half), (half, half + 1))}
    count = max(counts)
    return count if len(counts) == 1 and count <= half else None


def all_noughts(kind, marks):
    return all(x == told(kind, 0) for mark in marks for row in mark for x in row)


def marks_by_dice(box, kind, many, sights, hands, figures=1):
    return [table_by_dice(box, kind, sights, hands, figures) for _ in range(many)]


def off_by_one(box, kind, marks, place):
    """These marks, with another number somewhere in the mark of this place."""
    told_marks = [[list(row) for row in mark] for mark in marks]
    row = box.choice(told_marks[place])
    column = box.randrange(len(row))
    row[column] = plain_sum(kind, [row[column]], [told(kind, 1)])[0]
    return told_marks


def all_machines(prime, n, hands, sights):
    """Each machine of these sizes."""
    for numbers in all_choices(range(prime), repeat=n * n + n * hands + sights * n):
        left = list(numbers)
        yield tuple([[left.pop() for _ in range(columns)] for _ in range(rows)]
                    for rows, columns in ((n, n), (n, hands), (sights, n)))


def is_least(kind, machine):
    n = len(machine[0])
    return len(plain_steered(kind, machine)) == n and rank(kind, pulled_rows(kind, machine, n)) == n


class ReadOff(unittest.TestCase):
    def check(self, kind, marks):
        """Holds what is told against the marks, and tells how many numbers it has, or None."""
        answer = read_off(kind, marks)
        case = (kind, marks, answer)
        self.assertIs(type(answer), tuple, case)
        count = least_count(kind, marks)
        self.assertEqual(count == 0, all_noughts(kind, marks), case)
        if not count:
            self.assertEqual(answer, ("none",) if count is None else ("nought",), case)
            return count
        self.assertEqual((answer[0], len(answer)), ("machine", 4), case)
        machine = answer[1:]
        self.assertTrue(is_machine(kind, machine, count, len(marks[0][0]), len(marks[0])), case)
        self.assertEqual(plain_marks(kind, machine, len(marks)), marks, case)
        self.assertTrue(is_least(kind, machine), case)
        return count

    def test_marks_of_drawn_ones_ones_of_noughts_and_ones_in_parts(self):
        found = set()
        for kind, machine in machines_of("read off"):
            n = len(machine[0])
            marks = plain_marks(kind, machine, 12)
            least = core(kind, machine)
            wanted = 0 if least == ("none",) else len(least[1][0])
            for half in {1, max(n - 1, 1), n, 6}:
                count = self.check(kind, marks[:2 * half])
                found.add("none" if count is None else count)
                if half >= wanted:
                    self.assertEqual(count, wanted, (kind, machine, half))
        self.assertEqual(found, {"none", 0, 1, 2, 3, 4, 5})

    def test_marks_of_machines_steered_and_seen_in_whole(self):
        for kind, machine in whole_machines("read in whole"):
            n = len(machine[0])
            marks = plain_marks(kind, machine, 2 * n + 2)
            self.assertEqual(self.check(kind, marks[:2 * n]), n)
            self.assertEqual(self.check(kind, marks), n)
            if n > 1:
                # Fewer marks than tell the machine: a smaller one may have them, or none of at most so many numbers.
                self.assertIn(self.check(kind, marks[:2 * n - 2]), (None,) + tuple(range(n)))

    def test_marks_of_several_chains(self):
        for kind, machine in split_machines("read chains"):
            n = len(machine[0])
            marks = plain_marks(kind, machine, 12)
            for half in range(1, 7):
                count = self.check(kind, marks[:2 * half])
                if half >= n:
                    self.assertEqual(count, n)

    def test_drawn_tables(self):
        box = dice("drawn marks")
        found = []
        for kind in KINDS + SMALL_PRIMES:
            for half, sights, hands in all_choices((1, 2, 3, 6), (1, 2, 3), (1, 2, 3)):
                found.append(self.check(kind, marks_by_dice(box, kind, 2 * half, sights, hands)))
        self.assertGreater(found.count(None), 50)
        self.assertGreater(len(found) - found.count(None), 20)

    def test_drawn_tables_of_one_hand_and_sight(self):
        # Of these nearly all are the marks of a machine of half as many numbers.
        box = dice("single marks")
        found = []
        for kind in KINDS + SMALL_PRIMES:
            for half in range(1, 7):
                for _ in range(3):
                    found.append((half, self.check(kind, marks_by_dice(box, kind, 2 * half, 1, 1))))
        for half in range(1, 7):
            self.assertGreater(found.count((half, half)), 3)
        self.assertGreater(len([1 for half, count in found if count is None]), 3)

    def test_one_mark_that_is_off(self):
        box = dice("a mark off")
        for kind, machine in machines_of("off", (0, 2, 31, 97)):
            n = len(machine[0])
            marks = plain_marks(kind, machine, 2 * n + 2)
            for place in (0, n, 2 * n, 2 * n + 1):
                count = self.check(kind, off_by_one(box, kind, marks, place))
                if place >= 2 * n:
                    # With the first 2 n marks of n numbers, other n numbers or fewer have all the others too.
                    self.assertIn(count, (None, n + 1))

    def test_nought_just_where_all_are_noughts(self):
        for kind in KINDS:
            for half, sights, hands in all_choices((1, 2, 6), (1, 3), (1, 2)):
                marks = [[noughts(kind, hands) for _ in range(sights)] for _ in range(2 * half)]
                self.assertEqual(read_off(kind, marks), ("nought",))
                for place in range(2 * half):
                    other = [[list(row) for row in mark] for mark in marks]
                    other[place][-1][-1] = told(kind, 1)
                    count = self.check(kind, other)
                    # A mark behind so many noughts takes a number for each turn up to it.
                    self.assertEqual(count, place + 1 if place < half else None)

    def test_more_numbers_than_half_as_many_as_marks(self):
        for kind in KINDS:
            unit = unit_table(kind, 3)
            for half in (1, 2):
                self.assertEqual(read_off(kind, [unit for _ in range(2 * half)]), ("none",))
            self.assertEqual(self.check(kind, [unit for _ in range(6)]), 3)
            chain = chain_machine(kind, (0, 5, 0, 0))
            for half in range(1, 5):
                answer = read_off(kind, plain_marks(kind, chain, 2 * half))
                self.assertEqual(answer, ("nought",) if half < 3 else ("none",))

    def test_known_ones(self):
        for kind in KINDS:
            doubled = [table_of(kind, (1,)), table_of(kind, (2,))]
            self.assertEqual(read_off(kind, doubled)[1], table_of(kind, (2,)))
            self.assertEqual(read_off(kind, [table_of(kind, (0,)), table_of(kind, (1,))]), ("none",))
            sums = [table_of(kind, (x,)) for x in (1, 1, 2, 3, 5, 8)]
            self.assertEqual(self.check(kind, sums), 2)
            self.assertEqual(self.check(kind, sums[:5] + [table_of(kind, (9,))]), None)
            self.assertEqual(self.check(kind, sums[:4] + [table_of(kind, (6,)), sums[5]]), 3)

    def test_each_list_of_marks_one_by_one(self):
        for prime, half, sights, hands in ((2, 1, 1, 1), (2, 1, 2, 2), (2, 2, 1, 1), (2, 2, 1, 2), (2, 2, 2, 1),
                                           (3, 1, 1, 2), (3, 2, 1, 1), (5, 1, 1, 1)):
            least = {}
            for n in range(half, 0, -1):
                for machine in all_machines(prime, n, hands, sights):
                    least[str(plain_marks(prime, machine, 2 * half))] = n
            for numbers in all_choices(range(prime), repeat=2 * half * sights * hands):
                left = list(numbers)
                marks = [[[left.pop() for _ in range(hands)] for _ in range(sights)] for _ in range(2 * half)]
                count = self.check(prime, marks)
                self.assertEqual(count, 0 if all_noughts(prime, marks) else least.get(str(marks)), (prime, marks))

    def test_long_numbers(self):
        box = dice("long marks")
        for hands, sights in ((1, 1), (3, 1), (2, 3)):
            machine = machine_by_dice(box, 0, 5, hands, sights, 6)
            self.assertEqual(self.check(0, plain_marks(0, machine, 12)), 5)
            self.check(0, marks_by_dice(box, 0, 6, sights, hands, 60))
        self.assertEqual(self.check(0, marks_by_dice(box, 0, 6, 1, 1, 60)), 3)
        machine = turned_by(0, chain_machine(0, (1, 2, 1, 1)), *turn_by_dice(box, 0, 5, 20))
        self.assertEqual(self.check(0, plain_marks(0, machine, 12)), 2)


class CompareCase(unittest.TestCase):
    def check(self, kind, one, other):
        """Holds what is told against both machines, and tells it."""
        n, many = len(one[0]), len(one[0]) + len(other[0])
        answer = compared(kind, one, other)
        case = (kind, one, other, answer)
        self.assertIs(type(answer), tuple, case)
        pairs = zip(plain_marks(kind, one, many), plain_marks(kind, other, many))
        apart = [place for place, (left, right) in enumerate(pairs) if left != right]
        if apart:
            self.assertEqual(answer, ("apart", apart[0]), case)
            self.assertIs(type(answer[1]), int, case)
        elif is_least(kind, one) and is_least(kind, other):
            self.assertEqual((answer[0], len(answer)), ("turn", 3), case)
            self.check_turn(kind, one, other, answer[1], answer[2], case)
        else:
            self.assertEqual(answer, ("alike",), case)
        return answer

    def check_turn(self, kind, one, other, T, S, case):
        n = len(one[0])
        self.assertEqual(len(other[0]), n, case)
        for table in (T, S):
            self.assertTrue(rows_in_form(kind, table, n) and len(table) == n, case)
        self.assertEqual(plain_product(kind, S, T), unit_table(kind, n), case)
        self.assertEqual(plain_turned_by(kind, one, T, S), other, case)


class Apart(CompareCase):
    def test_drawn_pairs(self):
        box = dice("pairs")
        for kind in KINDS + SMALL_PRIMES:
            for n, m, hands, sights in all_choices((1, 3, 5), (1, 2, 5), (1, 3), (1, 2)):
                self.check(kind, machine_by_dice(box, kind, n, hands, sights),
                           machine_by_dice(box, kind, m, hands, sights))

    def test_at_each_mark_that_can_be_the_first(self):
        box = dice("first marks")
        for kind in KINDS:
            for n in range(1, 6):
                for m in range(n, 6):
                    one = whole_by_dice(box, kind, n, 1, 1)
                    # The last mark that can be the first to differ, and then whatever follows.
                    marks = off_by_one(box, kind, plain_marks(kind, one, 2 * m), n + m - 1)
                    marks[n + m:] = marks_by_dice(box, kind, m - n, 1, 1)
                    other = read_off(kind, marks)[1:]
                    self.assertEqual(len(other[0]), m)
                    self.assertEqual(self.check(kind, one, other), ("apart", n + m - 1))
                    self.assertEqual(self.check(kind, other, one), ("apart", n + m - 1))

    def test_chains_differ_from_noughts_at_their_last(self):
        for kind in KINDS:
            for n in range(1, 6):
                chain = chain_machine(kind, (0, n, 0, 0))
                for m in range(1, 6):
                    still = nought_machine(kind, m, 1, 2)
                    self.assertEqual(self.check(kind, chain, still), ("apart", n - 1))
                    self.assertEqual(self.check(kind, still, chain), ("apart", n - 1))
                    shorter = chain_machine(kind, (0, m, 0, 0))
                    if m != n:
                        self.assertEqual(self.check(kind, chain, shorter), ("apart", min(n, m) - 1))

    def test_one_number_off(self):
        box = dice("one number off")
        places = set()
        for kind, machine in machines_of("nearly"):
            n, hands, sights = sizes_of(machine)
            for table, rows, columns in ((0, n, n), (1, n, hands), (2, sights, n)):
                other = [[list(row) for row in part] for part in machine]
                row, column = box.randrange(rows), box.randrange(columns)
                other[table][row][column] = plain_sum(kind, [other[table][row][column]], [told(kind, 1)])[0]
                answer = self.check(kind, machine, tuple(other))
                places.add(answer[1] if answer[0] == "apart" else answer[0])
        self.assertLessEqual({0, 1, 2, 3, "alike"}, places)

    def test_the_last_hand_or_sight_counts_too(self):
        for kind in KINDS:
            A, B, C = nought_machine(kind, 2, 3, 3)
            A[0][0] = told(kind, 1)
            one = (A, B, C)
            other = [[list(row) for row in part] for part in one]
            other[1][0][2] = told(kind, 1)
            other[2][2][0] = told(kind, 1)
            self.assertEqual(self.check(kind, one, tuple(other)), ("apart", 0))


class Turns(CompareCase):
    def test_a_machine_and_itself_turned(self):
        box = dice("turned ones")
        for machines in (whole_machines("turned in whole"), split_machines("turned and split")):
            for kind, machine in machines:
                n = len(machine[0])
                T, S = turn_by_dice(box, kind, n)
                other = plain_turned_by(kind, machine, T, S)
                self.assertEqual(self.check(kind, machine, other), ("turn", T, S))
                self.assertEqual(self.check(kind, other, machine), ("turn", S, T))
                self.assertEqual(compared(kind, machine, machine), ("turn", unit_table(kind, n), unit_table(kind, n)))

    def test_drawn_ones_ones_of_noughts_and_ones_in_parts(self):
        box = dice("turned parts")
        words = []
        for kind, machine in machines_of("compared"):
            T, S = turn_by_dice(box, kind, len(machine[0]))
            answer = self.check(kind, machine, plain_turned_by(kind, machine, T, S))
            words.append(answer[0])
            if answer[0] == "turn":
                self.assertEqual(answer, ("turn", T, S))
        self.assertGreater(words.count("turn"), 50)
        self.assertGreater(words.count("alike"), 50)
        self.assertEqual(words.count("apart"), 0)

    def test_the_machine_read_off_its_marks(self):
        for kind, machine in whole_machines("read and compared", (0, 2, 97)):
            n = len(machine[0])
            least = read_off(kind, plain_marks(kind, machine, 2 * n))[1:]
            self.assertEqual(self.check(kind, machine, least)[0], "turn")

    def test_no_other_turn_does_it(self):
        box = dice("all turns")
        for prime, n in ((2, 1), (2, 2), (2, 3), (3, 1), (3, 2)):
            for hands, sights in ((1, 1), (2, 1), (1, 2)):
                one = whole_by_dice(box, prime, n, hands, sights)
                other = plain_turned_by(prime, one, *turn_by_dice(box, prime, n))
                found = [T for T in self.all_squares(prime, n) if self.turns(prime, one, other, T)]
                self.assertEqual([self.check(prime, one, other)[1]], found)

    def all_squares(self, prime, n):
        return [[list(numbers[place * n:place * n + n]) for place in range(n)]
                for numbers in all_choices(range(prime), repeat=n * n)]

    def turns(self, prime, one, other, T):
        """Whether the table, if it has a back, makes the second machine of the first."""
        return (rank(prime, T) == len(T) and plain_product(prime, one[0], T) == plain_product(prime, T, other[0])
                and plain_product(prime, T, other[1]) == one[1] and plain_product(prime, one[2], T) == other[2])

    def test_known_ones(self):
        for kind in KINDS:
            one = (table_of(kind, (1, 1), (0, 1)), table_of(kind, (0,), (1,)), table_of(kind, (1, 0)))
            swapped = (table_of(kind, (1, 0), (1, 1)), table_of(kind, (1,), (0,)), table_of(kind, (0, 1)))
            swap = table_of(kind, (0, 1), (1, 0))
            self.assertEqual(compared(kind, one, swapped), ("turn", swap, swap))
        half = ([[(3, 1)]], [[(1, 1)]], [[(1, 1)]]), ([[(3, 1)]], [[(2, 1)]], [[(1, 2)]])
        self.assertEqual(compared(0, *half), ("turn", [[(1, 2)]], [[(2, 1)]]))

    def test_long_numbers(self):
        box = dice("long turns")
        for hands, sights in ((1, 1), (2, 3)):
            machine = machine_by_dice(box, 0, 5, hands, sights, 6)
            T, S = turn_by_dice(box, 0, 5, 20)
            other = turned_by(0, machine, T, S)
            self.assertEqual(compared(0, machine, other), ("turn", T, S))
            self.assertEqual(compared(0, other, machine), ("turn", S, T))

    def test_ten_numbers(self):
        box = dice("ten numbers")
        for kind in (0, 2, 97):
            machine = whole_by_dice(box, kind, 10, 2, 2)
            T, S = turn_by_dice(box, kind, 10)
            other = plain_turned_by(kind, machine, T, S)
            self.assertEqual(compared(kind, machine, other), ("turn", T, S))
            self.assertEqual(self.check(kind, machine, whole_by_dice(box, kind, 4, 2, 2))[0], "apart")


class Alike(CompareCase):
    def test_a_machine_and_its_core(self):
        for kind, machine in machines_of("cores"):
            least = core(kind, machine)
            if least[0] == "core":
                wanted = "turn" if len(least[1][0]) == len(machine[0]) else "alike"
                self.assertEqual(self.check(kind, machine, least[1])[0], wanted)
                self.assertEqual(self.check(kind, least[1], machine)[0], wanted)
            else:
                n, hands, sights = sizes_of(machine)
                for m in (1, n, 5):
                    self.assertEqual(self.check(kind, machine, nought_machine(kind, m, hands, sights)), ("alike",))

    def test_one_of_the_rooms_is_not_so(self):
        for kind in KINDS:
            whole = chain_machine(kind, (0, 2, 0, 0))
            for sizes in all_sizes(5):
                if sizes[1] == 2 and sum(sizes) > 2:
                    other = chain_machine(kind, sizes)
                    self.assertEqual(self.check(kind, whole, other), ("alike",))
                    self.assertEqual(self.check(kind, other, whole), ("alike",))
                    self.assertEqual(self.check(kind, other, other), ("alike",))

    def test_not_all_of_it_is_steered_or_seen(self):
        for kind in KINDS:
            A, B, C = handed_on(kind, 3, noughts(kind, 3), 1, 1)
            unsteered = (A, [noughts(kind, 1) for _ in B], C)
            unseen = (A, B, [noughts(kind, 3)])
            for one, other in all_choices((unsteered, unseen), repeat=2):
                self.assertEqual(self.check(kind, one, other), ("alike",))

    def test_columns_in_another_order_make_other_marks(self):
        for kind in KINDS:
            A, B, C = machine_by_dice(dice("order"), kind, 3, 2, 1)
            B = columns_of([columns_of(B)[0], plain_sum(kind, columns_of(B)[0], row_by_dice(dice("o"), kind, 3))])
            self.check(kind, (A, B, C), (A, [list(reversed(row)) for row in B], C))


if __name__ == "__main__":
    unittest.main()
