"""Products of ranges of a sequence, and product trees as lists of nodes."""

from producttrees.errors import InvalidRange, InvalidTree, TooMany
from producttrees.tables import LARGEST_TABLE, check_sequence, check_table
from producttrees.validation import is_list, is_number_below, is_range

MOST_NODES = 4100
_MOST_TREES = 100

# Every function goes through the list of the nodes or keeps a list of the nodes to visit, since a tree may be
# thousands of nodes deep. Children stand before their parents in the list.


def evaluate(table, sequence, start=0, stop=None):
    """Return the product of a range of the sequence."""
    check_table(table)
    check_sequence(table, sequence)
    end = len(sequence) if stop is None else stop
    if not is_range(start, end, len(sequence)):
        raise InvalidRange((start, stop))
    return multiplied(table.rows(), sequence[start:end])


def multiplied(rows, factors):
    """Return the product of one or more factors by the rows of a table."""
    result = factors[0]
    for factor in factors[1:]:
        result = rows[result][factor]
    return result


def is_tree(value):
    """Tell whether the value is a product tree."""
    if not is_list(value, 1, MOST_NODES):
        return False
    is_child = [False] * len(value)
    for index, node in enumerate(value):
        if not isinstance(node, tuple):
            if not is_number_below(node, LARGEST_TABLE):
                return False
            continue
        for child in node:
            if not is_number_below(child, index) or is_child[child]:
                return False
            is_child[child] = True
    # The last node cannot be a child; each other one has to be.
    return all(is_child[:-1])


def check_tree(tree):
    """Raise an error unless the value is a tree."""
    if not is_tree(tree):
        raise InvalidTree(tree)


def tree_leaves(tree):
    """Return the leaves of the tree, in order."""
    check_tree(tree)
    leaves = []
    waiting = [len(tree) - 1]
    while waiting:
        node = tree[waiting.pop()]
        if isinstance(node, tuple):
            waiting.extend(node[::-1])
        else:
            leaves.append(node)
    return leaves


def tree_height(tree):
    """Return the height of the root."""
    check_tree(tree)
    heights = []
    for node in tree:
        if isinstance(node, tuple):
            heights.append(1 + max([heights[child] for child in node], default=0))
        else:
            heights.append(0)
    return heights[-1]


def tree_spans(tree):
    """Return, for each node, the range of its leaves among the leaves of the tree."""
    check_tree(tree)
    counts = []
    for node in tree:
        counts.append(sum([counts[child] for child in node]) if isinstance(node, tuple) else 1)
    starts = [0] * len(tree)
    for index in reversed(range(len(tree))):
        if isinstance(tree[index], tuple):
            place = starts[index]
            for child in tree[index]:
                starts[child] = place
                place += counts[child]
    return [(start, start + count) for start, count in zip(starts, counts)]


def tree_products(table, tree):
    """Return, for each node, the product of its leaves, or None if it has none."""
    check_table(table)
    check_tree(tree)
    rows = table.rows()
    products = []
    for node in tree:
        if isinstance(node, tuple):
            factors = [products[child] for child in node if products[child] is not None]
            products.append(multiplied(rows, factors) if factors else None)
        elif node < len(rows):
            products.append(node)
        else:
            raise InvalidTree(tree)
    return products


def first_tree_error(table, sequence, tree):
    """Return None if the tree is valid for the sequence, and otherwise the kind and the index of its first error."""
    check_table(table)
    check_sequence(table, sequence)
    leaves = tree_leaves(tree)
    if len(leaves) != len(sequence):
        return ("length", len(leaves))
    for place, leaf in enumerate(leaves):
        if leaf != sequence[place]:
            return ("leaf", place)
    products = tree_products(table, tree)
    idempotents = table.idempotents()
    for index, node in enumerate(tree):
        if isinstance(node, tuple):
            kind = _node_error([products[child] for child in node], idempotents)
            if kind is not None:
                return (kind, index)
    return None


def _node_error(products, idempotents):
    """Return the kind of the first error of an inner node whose children have these products, or None."""
    if len(products) < 2:
        return "children"
    if len(products) == 2:
        return None
    if products.count(products[0]) < len(products):
        return "products"
    if products[0] not in idempotents:
        return "idempotent"
    return None


def join_trees(trees):
    """Return the tree whose root has the roots of the given trees as its children."""
    if not is_list(trees, 2, _MOST_TREES):
        raise InvalidTree(trees)
    for tree in trees:
        check_tree(tree)
    count = sum([len(tree) for tree in trees]) + 1
    if count > MOST_NODES:
        raise TooMany(count)
    nodes = []
    roots = []
    for tree in trees:
        nodes.extend(_moved(tree, len(nodes)))
        roots.append(len(nodes) - 1)
    return nodes + [tuple(roots)]


def _moved(tree, distance):
    """Return the nodes of the tree, with the indexes of all children increased by the distance."""
    nodes = []
    for node in tree:
        nodes.append(tuple([child + distance for child in node]) if isinstance(node, tuple) else node)
    return nodes
