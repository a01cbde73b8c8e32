"""Homomorphisms from one table to another one, and the table of the pairs of two tables."""

from producttrees.errors import InvalidMap, InvalidTree, NotHomomorphism, TooMany
from producttrees.tables import LARGEST_TABLE, ProductTable, check_sequence, check_table
from producttrees.trees import check_tree
from producttrees.validation import is_number_list


def first_homomorphism_error(source, target, images):
    """Return None if the map is a homomorphism, and otherwise the first pair whose product it does not preserve."""
    _check_map(source, target, images)
    before, after = source.rows(), target.rows()
    for a, row in enumerate(before):
        for b, product in enumerate(row):
            if images[product] != after[images[a]][images[b]]:
                return (a, b)
    return None


def map_sequence(source, target, images, sequence):
    """Return the images of the elements of a sequence by a homomorphism."""
    _check_map(source, target, images)
    check_sequence(source, sequence)
    _check_homomorphism(source, target, images)
    return [images[element] for element in sequence]


def map_tree(source, target, images, tree):
    """Return the tree with the image of each leaf by a homomorphism in its place."""
    _check_map(source, target, images)
    check_tree(tree)
    if any([not isinstance(node, tuple) and node >= len(source) for node in tree]):
        raise InvalidTree(tree)
    _check_homomorphism(source, target, images)
    return [node if isinstance(node, tuple) else images[node] for node in tree]


def pair_table(first, second):
    """Return the table of all pairs of elements of two tables, and the first and the second component of each pair."""
    check_table(first)
    check_table(second)
    size = len(second)
    count = len(first) * size
    if count > LARGEST_TABLE:
        raise TooMany(count)
    firsts = [pair // size for pair in range(count)]
    seconds = [pair - size * firsts[pair] for pair in range(count)]
    left, right = first.rows(), second.rows()
    rows = []
    for a in range(count):
        rows.append([left[firsts[a]][firsts[b]] * size + right[seconds[a]][seconds[b]] for b in range(count)])
    return ProductTable(rows), firsts, seconds


def _check_map(source, target, images):
    """Raise an error unless these are two tables and a map from the one to the other."""
    check_table(source)
    check_table(target)
    if not is_number_list(images, len(source), len(source), len(target)):
        raise InvalidMap(images)


def _check_homomorphism(source, target, images):
    """Raise an error unless the map is a homomorphism."""
    pair = first_homomorphism_error(source, target, images)
    if pair is not None:
        raise NotHomomorphism(pair)
