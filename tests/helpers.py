"""What several test files share: sample tables and sample values, and a check of raised exceptions."""

import random

from producttrees.errors import TooMany
from producttrees.tables import ProductTable
from producttrees.transformations import Transformations

PARITY = [[0, 1], [1, 0]]
LOW = [[0, 0], [0, 1]]
SWITCH = [[0, 0, 0], [0, 1, 2], [0, 2, 1]]
LEFT_ZERO = [[0, 0], [1, 1]]
NULL = [[0, 0], [0, 0]]


def cyclic_rows(size):
    return [[(a + b) % size for b in range(size)] for a in range(size)]


def lowest_rows(size):
    return [[min(a, b) for b in range(size)] for a in range(size)]


def left_zero_rows(size):
    return [[a for _ in range(size)] for a in range(size)]


def right_zero_rows(size):
    return [list(range(size)) for _ in range(size)]


def all_small_tables():
    """Return every product table with one or two elements, and some larger ones that do not commute."""
    tables = [ProductTable([[0]])]
    for code in range(16):
        bits = [(code >> place) & 1 for place in range(4)]
        rows = [bits[:2], bits[2:]]
        triples = [(a, b, c) for a in (0, 1) for b in (0, 1) for c in (0, 1)]
        if all(rows[rows[a][b]][c] == rows[a][rows[b][c]] for a, b, c in triples):
            tables.append(ProductTable(rows))
    tables.append(ProductTable(SWITCH))
    # All maps of two states, where a*b applies a first: they do not commute.
    maps = [(0, 0), (0, 1), (1, 0), (1, 1)]
    tables.append(ProductTable([[maps.index((b[a[0]], b[a[1]])) for b in maps] for a in maps]))
    for size in (3, 5, 16):
        tables += [ProductTable(make(size)) for make in (cyclic_rows, lowest_rows, left_zero_rows, right_zero_rows)]
    return tables


def matrix_rows(lefts, rights, joins):
    """Return the rows for the pairs (left, right), and 0 at the end, where joins[right][left] tells whether a product
    of a pair with this right and a pair with this left is a pair; it is 0 otherwise."""
    pairs = [(left, right) for left in range(lefts) for right in range(rights)]
    rows = []
    for left, right in pairs:
        made = [pairs.index((left, other[1])) if joins[right][other[0]] else len(pairs) for other in pairs]
        rows.append(made + [len(pairs)])
    return rows + [[len(pairs)] * (len(pairs) + 1)]


def pair_rows(first, second):
    """Return the rows of the pairs of two tables' elements."""
    size = len(second)
    return [[first[a // size][b // size] * size + second[a % size][b % size] for b in range(len(first) * size)]
            for a in range(len(first) * size)]


def symmetric_rows():
    """Return the rows of the permutations of three places, which do not commute."""
    maps = [(0, 1, 2), (0, 2, 1), (1, 0, 2), (1, 2, 0), (2, 0, 1), (2, 1, 0)]
    return [[maps.index(tuple(b[k] for k in a)) for b in maps] for a in maps]


def nilpotent_rows(size):
    """Return the rows of the lengths 1 to size, the last of which stands for all greater ones."""
    return [[min(a + b + 1, size - 1) for b in range(size)] for a in range(size)]


def opposite(table):
    """Return the table in which all products have their factors exchanged."""
    rows = table.rows()
    return ProductTable([[rows[b][a] for b in range(len(rows))] for a in range(len(rows))])


def drawn_letters(states, count, draw):
    """Return so many letters with drawn targets."""
    return {name: [draw.randrange(states) for _ in range(states)] for name in "abcd"[:count]}


def drawn_tables(count, seed):
    """Return tables that some drawn maps of one to five states generate."""
    draw = random.Random(seed)
    tables = []
    while len(tables) < count:
        states = draw.randint(1, 5)
        try:
            tables.append(Transformations(states, drawn_letters(states, draw.randint(1, 4), draw)).table())
        except TooMany:
            continue
    return tables


def various_tables():
    """Return tables of all kinds: with one-sided rules, with several group cells in a level, with levels that contain
    no idempotent or stand beside each other, and with one and with sixteen elements."""
    left, right, swaps = left_zero_rows, right_zero_rows, symmetric_rows()
    rows = [
        matrix_rows(2, 2, [[1, 0], [0, 1]]),
        matrix_rows(3, 5, [[1, 0, 1], [0, 1, 0], [1, 1, 1], [0, 0, 1], [1, 0, 0]]),
        matrix_rows(5, 3, [[1, 0, 0, 1, 1], [0, 1, 0, 1, 0], [0, 0, 1, 0, 1]]),
        matrix_rows(1, 3, [[0], [0], [0]]),
        matrix_rows(2, 2, [[1, 0], [0, 0]]),
        pair_rows(left(2), right(2)), pair_rows(left(4), right(4)), pair_rows(PARITY, pair_rows(left(2), right(3))),
        pair_rows(PARITY, PARITY), pair_rows(LOW, LOW), pair_rows(SWITCH, LOW), pair_rows(LEFT_ZERO, cyclic_rows(8)),
        swaps, pair_rows(swaps, LEFT_ZERO),
        nilpotent_rows(5), nilpotent_rows(16), pair_rows(nilpotent_rows(4), cyclic_rows(4)),
        pair_rows(LOW, nilpotent_rows(8)),
    ]
    return all_small_tables() + [ProductTable(item) for item in rows] + drawn_tables(60, 7)


def values_that_are_no_table():
    return [None, True, 0, 1, "", "table", [], [[0]], ((0,),), {}, {"rows": [[0]]}, LOW, tuple(LOW),
            [ProductTable([[0]])], Transformations(1, {"a": [0]})]


def values_that_are_no_element(size):
    return values_that_are_no_integer() + [-1, size, size + 1, -size, 16, 10 ** 29]


def values_that_are_no_sequence(size):
    """Return values that are no sequence of a table of this size; each of the errors is the only one of its value."""
    lists = [[wrong] for wrong in values_that_are_no_element(size)]
    lists += [[0, wrong, 0] for wrong in (size, -1, True, None, "0", [0], (0,))]
    lists += [[0] * 2001, (0,) * 2001, [0] * 2010, [], ()]
    return lists + [None, True, 0, 1, "", "0", "01", {}, {0: 0}, [[0]], ([0],), ProductTable([[0]])]


def values_that_are_no_integer():
    return [None, True, False, "1", "", [1], (1,), {}, {"a": 1}, ProductTable([[0]])]


class RaiseCheck:
    """Mixed into test cases: checks the very class and the very field objects of an exception."""

    def raised(self, expected, action, *args, **named):
        with self.assertRaises(expected) as caught:
            action(*args, **named)
        self.assertIs(type(caught.exception), expected)
        return caught.exception

    def assert_raises_with(self, expected, field, held, action, *args, **named):
        error = self.raised(expected, action, *args, **named)
        self.assertIs(getattr(error, field), held)
