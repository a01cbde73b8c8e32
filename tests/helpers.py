"""What several test files share: sample tables and sample values, and a check of raised exceptions."""

import random

from producttrees.errors import TooMany
from producttrees.tables import ProductTable
from producttrees.transformations import Transformations

PARITY = [[0, 1], [1, 0]]
LOW = [[0, 0], [0, 1]]
SWITCH = [[0, 0, 0], [0, 1, 2], [0, 2, 1]]
LEFT_ZERO = [[0, 0], [1, 1]]
NULL = [[0, 0], [0, 0]]


def cyclic_rows(size):
    return [[(a + b) % size for b in range(size)] for a in range(size)]


def lowest_rows(size):
    return [[min(a, b) for b in range(size)] for a in range(size)]


def left_zero_rows(size):
    return [[a for _ in range(size)] for a in range(size)]


def right_zero_rows(size):
    return [list(range(size)) for _ in range(size)]


def all_small_tables():
    """Return every product table with one or two elements, and some larger ones that do not commute."""
    tables = [ProductTable([[0]])]
    for code in range(16):
        bits = [(code >> place) & 1 for place in range(4)]
        rows = [bits[:2], bits[2:]]
        triples = [(a, b, c) for a in (0, 1) for b in (0, 1) for c in (0, 1)]
        if all(rows[rows[a][b]][c] == rows[a][rows[b][c]] for a, b, c in triples):
            tables.append(ProductTable(rows))
    tables.append(ProductTable(SWITCH))
    # All maps of two states, where a*b applies a first: they do not commute.
    maps = [(0, 0), (0, 1), (1, 0), (1, 1)]
    tables.append(ProductTable([[maps.index((b[a[0]], b[a[1]])) for b in maps] for a in maps]))
    for size in (3, 5, 16):
        tables += [ProductTable(make(size)) for make in (cyclic_rows, lowest_rows, left_zero_rows, right_zero_rows)]
    return tables


def matrix_rows(lefts, rights, joins):
    """Return the rows for the pairs (left, right), and 0 at the end, where joins[right][left] tells whether a product
    of a pair with this right and a pair with this left is a pair; it is 0 otherwise."""
    pairs = [(left, right) for left in range(lefts) for right in range(rights)]
    rows = []
    for left, right in pairs:
        made = [pairs.index((left, other[1])) if joins[right][other[0]] else len(pairs) for other in pairs]
        rows.append(made + [len(pairs)])
    return rows + [[len(pairs)] * (len(pairs) + 1)]


def pair_rows(first, second):
    """Return the rows of the pairs of two tables' elements."""
    size = len(second)
    return [[first[a // size][b // size] * size + second[a % size][b % size] for b in range(len(first) * size)]
            for a in range(len(first) * size)]


def symmetric_rows():
    """Return the rows of the permutations of three places, which do not commute."""
    maps = [(0, 1, 2), (0, 2, 1), (1, 0, 2), (1, 2, 0), (2, 0, 1), (2, 1, 0)]
    return [[maps.index(tuple(b[k] for k in a)) for b in maps] for a in maps]


def nilpotent_rows(size):
    """Return the rows of the lengths 1 to size, the last of which stands for all greater ones."""
    return [[min(a + b + 1, size - 1) for b in range(size)] for a in range(size)]


def opposite(table):
    """Return the table in which all products have their factors exchanged."""
    rows = table.rows()
    return ProductTable([[rows[b][a] for b in range(len(rows))] for a in range(len(rows))])


def drawn_letters(states, count, draw):
    """Return so many letters with drawn targets."""
    return {name: [draw.randrange(states) for _ in range(states)] for name in "abcd"[:count]}


def drawn_tables(count, seed):
    """Return tables that some drawn maps of one to five states generate."""
    draw = random.Random(seed)
    tables = []
    while len(tables) < count:
        states = draw.randint(1, 5)
        try:
            tables.append(Transformations(states, drawn_letters(states, draw.randint(1, 4), draw)).table())
        except TooMany:
            continue
    return tables


def various_tables():
    """Return tables of all kinds: with one-sided rules, with several group cells in a level, with levels that contain
    no idempotent or stand beside each other, and with one and with sixteen elements."""
    left, right, swaps = left_zero_rows, right_zero_rows, symmetric_rows()
    rows = [
        matrix_rows(2, 2, [[1, 0], [0, 1]]),
        matrix_rows(3, 5, [[1, 0, 1], [0, 1, 0], [1, 1, 1], [0, 0, 1], [1, 0, 0]]),
        matrix_rows(5, 3, [[1, 0, 0, 1, 1], [0, 1, 0, 1, 0], [0, 0, 1, 0, 1]]),
        matrix_rows(1, 3, [[0], [0], [0]]),
        matrix_rows(2, 2, [[1, 0], [0, 0]]),
        pair_rows(left(2), right(2)), pair_rows(left(4), right(4)), pair_rows(PARITY, pair_rows(left(2), right(3))),
        pair_rows(PARITY, PARITY), pair_rows(LOW, LOW), pair_rows(SWITCH, LOW), pair_rows(LEFT_ZERO, cyclic_rows(8)),
        swaps, pair_rows(swaps, LEFT_ZERO),
        nilpotent_rows(5), nilpotent_rows(16), pair_rows(nilpotent_rows(4), cyclic_rows(4)),
        pair_rows(LOW, nilpotent_rows(8)),
    ]
    return all_small_tables() + [ProductTable(item) for item in rows] + drawn_tables(60, 7)


def folded(table, factors):
    rows, result = table.rows(), factors[0]
    for factor in factors[1:]:
        result = rows[result][factor]
    return result


def drawn_sequence(table, length, draw):
    return [draw.randrange(len(table)) for _ in range(length)]


def sequences(table, length, draw):
    """Return sequences of a length: drawn, constant, periodic, of blocks of growing length, and of few elements."""
    size = len(table)
    last = size - 1
    period = drawn_sequence(table, 7, draw)
    blocks = []
    while len(blocks) < length:
        blocks += [len(blocks) % size] + [draw.randrange(size)] * (1 + len(blocks) // 5)
    # Each step puts a new element between two copies of what there was before.
    nested = [0]
    while len(nested) < length:
        nested = nested + [draw.randrange(size)] + nested
    few = draw.sample(range(size), min(2, size))
    return [drawn_sequence(table, length, draw), [0] * length, [last] * length, [draw.randrange(size)] * length,
            (period * length)[:length], (list(range(size)) * length)[:length], blocks[:length], nested[:length],
            [draw.choice(few) for _ in range(length)]]


def left_deep(leaves):
    """Return a tree of pairs that hang in the left one of each other."""
    nodes = [leaves[0]]
    for leaf in leaves[1:]:
        root = len(nodes) - 1
        nodes += [leaf, (root, root + 1)]
    return nodes


def right_deep(leaves):
    """Return a tree of pairs that hang in the right one of each other."""
    nodes = [leaves[-1]]
    for leaf in leaves[-2::-1]:
        root = len(nodes) - 1
        nodes += [leaf, (root + 1, root)]
    return nodes


def alternating(leaves):
    """Return a tree of pairs that hang in each other by turns: in the left one, in the right one, and so on."""
    low, high = len(leaves) // 2, len(leaves) // 2 + 1
    nodes = [leaves[low]]
    while low > 0 or high < len(leaves):
        root = len(nodes) - 1
        if low > 0 and (high - low) % 2 == 1 or high == len(leaves):
            low -= 1
            nodes += [leaves[low], (root + 1, root)]
        else:
            nodes += [leaves[high], (root, root + 1)]
            high += 1
    return nodes


def wide(leaves):
    """Return a tree with all leaves below the root."""
    return list(leaves) + [tuple(range(len(leaves)))]


def reversed_wide(leaves):
    """Return a tree in whose list the leaves stand from the last one to the first one."""
    return list(leaves[::-1]) + [tuple(range(len(leaves)))[::-1]]


def single_chain(nodes):
    """Return a tree of so many nodes with one leaf, in which each inner node has one child."""
    return [1] + [(index,) for index in range(nodes - 1)]


def drawn_tree(draw, size, most_leaf):
    """Return a drawn tree with a drawn order of its nodes, also with nodes of one child or none."""
    nodes = []
    roots = []
    for _ in range(size):
        if draw.random() < 0.55 or not roots:
            nodes.append(draw.randint(0, most_leaf) if draw.random() < 0.85 else ())
        else:
            count = min(len(roots), draw.randint(1, 4))
            draw.shuffle(roots)
            nodes.append(tuple(roots[:count]))
            del roots[:count]
        roots.append(len(nodes) - 1)
    draw.shuffle(roots)
    return nodes + [tuple(roots)]


def reordered(tree, draw):
    """Return the same tree with its nodes in a drawn order in which children come first."""
    parents = {child: index for index, node in enumerate(tree) if isinstance(node, tuple) for child in node}
    missing = [len(node) if isinstance(node, tuple) else 0 for node in tree]
    ready = [index for index, count in enumerate(missing) if count == 0]
    places = {}
    nodes = []
    while ready:
        index = ready.pop(draw.randrange(len(ready)))
        places[index] = len(nodes)
        node = tree[index]
        nodes.append(tuple(places[child] for child in node) if isinstance(node, tuple) else node)
        if index in parents:
            missing[parents[index]] -= 1
            if missing[parents[index]] == 0:
                ready.append(parents[index])
    return nodes


def values_that_are_no_table():
    return [None, True, 0, 1, "", "table", [], [[0]], ((0,),), {}, {"rows": [[0]]}, LOW, tuple(LOW),
            [ProductTable([[0]])], Transformations(1, {"a": [0]})]


def values_that_are_no_element(size):
    return values_that_are_no_integer() + [-1, size, size + 1, -size, 16, 10 ** 29]


def values_that_are_no_sequence(size):
    """Return values that are no sequence of a table of this size; each of the errors is the only one of its value."""
    lists = [[wrong] for wrong in values_that_are_no_element(size)]
    lists += [[0, wrong, 0] for wrong in (size, -1, True, None, "0", [0], (0,))]
    lists += [[0] * 2001, (0,) * 2001, [0] * 2010, [], ()]
    return lists + [None, True, 0, 1, "", "0", "01", {}, {0: 0}, [[0]], ([0],), ProductTable([[0]])]


def values_that_are_no_tree():
    """Return values with one fault each."""
    wrong_leaves = [[wrong] for wrong in (-1, 16, 17, 10 ** 29, None, True, False, "0", "", [], [0], {}, {0: 0},
                                           ProductTable(LOW))]
    wrong_lists = [None, True, False, 0, 1, "", "0", {}, {0: 0}, {0: (0,)}, ProductTable(LOW), [], ()]
    wrong_children = [
        [0, 1], [0, 1, (1,)], [0, 1, (0,)], [0, (0,), 1], [0, (0,), (0,)], [0, (0,), (0, 1)], [0, (0, 0)],
        [0, 1, (0, 1, 1)], [0, (0,), (1, 1)], [(0,)], [(0,), 1], [0, (1,)], [0, (0, 1)], [0, 1, (0, 1, 2)],
        [0, (2,), (0, 1)], [(1,), (0,)], [(1, 2), 0, 0], [0, (-1,)], [0, 1, (0, -2)], [0, 1, (0, -1)], [0, (True,)],
        [0, (False,)], [0, (None,)], [0, ("0",)], [0, ((0,),)], [0, ([0],)], [0, [0]], [0, 1, [0, 1]], [0, 1, (0, [1])],
        [0, {0: 0}], [0, "0"], [0, 1, "01"], [0, None], [0, 1, (0, 1), ()], [(), ()], [(), 0], [0, ()], [0, (), (0,)],
        [0, (10 ** 29,)], [ProductTable(LOW), (0,)], [[0], (0,)], [0, 1, (0, 1), 2], [0, 1, (0, 1), 2, (2, 3), 3],
        [0, 1, 2, (0, 1), (1, 2)], [0, 1, 2, (0, 1), (1, 2, 3)], [0, 1, 2, (0, 1), (3, 2, 0)], [-1, (0,)], [16, (0,)],
        [True, (0,)], [0, True, (0, 1)],
    ]
    return wrong_leaves + wrong_lists + wrong_children


def values_that_are_no_integer():
    return [None, True, False, "1", "", [1], (1,), {}, {"a": 1}, ProductTable([[0]])]


class RaiseCheck:
    """Mixed into test cases: checks the very class and the very field objects of an exception."""

    def raised(self, expected, action, *args, **named):
        with self.assertRaises(expected) as caught:
            action(*args, **named)
        self.assertIs(type(caught.exception), expected)
        return caught.exception

    def assert_raises_with(self, expected, field, held, action, *args, **named):
        error = self.raised(expected, action, *args, **named)
        self.assertIs(getattr(error, field), held)
