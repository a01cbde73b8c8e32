"""What several test files share: sample tables and sample values, and a check of raised exceptions."""

from producttrees.tables import ProductTable

PARITY = [[0, 1], [1, 0]]
LOW = [[0, 0], [0, 1]]
SWITCH = [[0, 0, 0], [0, 1, 2], [0, 2, 1]]
LEFT_ZERO = [[0, 0], [1, 1]]
NULL = [[0, 0], [0, 0]]


def cyclic_rows(size):
    return [[(a + b) % size for b in range(size)] for a in range(size)]


def lowest_rows(size):
    return [[min(a, b) for b in range(size)] for a in range(size)]


def left_zero_rows(size):
    return [[a for _ in range(size)] for a in range(size)]


def right_zero_rows(size):
    return [list(range(size)) for _ in range(size)]


def all_small_tables():
    """Return every product table with one or two elements, and some larger ones that do not commute."""
    tables = [ProductTable([[0]])]
    for code in range(16):
        bits = [(code >> place) & 1 for place in range(4)]
        rows = [bits[:2], bits[2:]]
        triples = [(a, b, c) for a in (0, 1) for b in (0, 1) for c in (0, 1)]
        if all(rows[rows[a][b]][c] == rows[a][rows[b][c]] for a, b, c in triples):
            tables.append(ProductTable(rows))
    tables.append(ProductTable(SWITCH))
    # All maps of two states, where a*b applies a first: they do not commute.
    maps = [(0, 0), (0, 1), (1, 0), (1, 1)]
    tables.append(ProductTable([[maps.index((b[a[0]], b[a[1]])) for b in maps] for a in maps]))
    for size in (3, 5, 16):
        tables += [ProductTable(make(size)) for make in (cyclic_rows, lowest_rows, left_zero_rows, right_zero_rows)]
    return tables


def values_that_are_no_integer():
    return [None, True, False, "1", "", [1], (1,), {}, {"a": 1}, ProductTable([[0]])]


class RaiseCheck:
    """Mixed into test cases: checks the very class and the very field objects of an exception."""

    def raised(self, expected, action, *args, **named):
        with self.assertRaises(expected) as caught:
            action(*args, **named)
        self.assertIs(type(caught.exception), expected)
        return caught.exception

    def assert_raises_with(self, expected, field, held, action, *args, **named):
        error = self.raised(expected, action, *args, **named)
        self.assertIs(getattr(error, field), held)
