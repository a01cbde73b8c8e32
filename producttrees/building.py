"""Product trees whose height has a bound that does not depend on the length of the sequence."""

from producttrees.errors import InvalidLevel
from producttrees.levels import left_classes, level_numbers, right_classes
from producttrees.tables import check_sequence, check_table
from producttrees.trees import multiplied
from producttrees.validation import is_number_below


def cut_at_level(table, sequence, level):
    """Return the ranges of the pieces into which the level cuts the sequence, and the place of the uncut rest."""
    check_table(table)
    check_sequence(table, sequence)
    cutter = Cutter(table)
    cutter.check_level(level)
    return cutter.cut(sequence, level)


def gap_labels(table, sequence, level):
    """Return the label of each gap between two neighboring pieces of the level."""
    check_table(table)
    check_sequence(table, sequence)
    cutter = Cutter(table)
    cutter.check_level(level)
    if cutter.level_of_product(sequence) > level:
        raise InvalidLevel(level)
    pieces, _ = cutter.cut(sequence, level)
    return cutter.labels(sequence, pieces)


def build_tree(table, sequence):
    """Return a valid tree of the sequence, no higher than the height bound of the table."""
    check_table(table)
    check_sequence(table, sequence)
    return TreeBuilder(table).built(sequence)


class Cutter:
    """Cuts sequences of a table at its levels; what this asks the table for at each place is worked out once."""

    def __init__(self, table):
        self._rows = table.rows()
        self._levels = level_numbers(table)
        self._idempotents = table.idempotents()
        self._left_classes = left_classes(table)
        self._right_classes = right_classes(table)

    def check_level(self, level):
        """Raise an error unless the value is the number of a level."""
        if not is_number_below(level, max(self._levels) + 1):
            raise InvalidLevel(level)

    def level_of_product(self, sequence):
        """Return the number of the level that contains the product of the sequence."""
        return self._levels[multiplied(self._rows, sequence)]

    def cut(self, sequence, level):
        """Return the ranges of the pieces, and the place of the rest."""
        pieces = []
        start = 0
        held = None
        for place, element in enumerate(sequence):
            held = element if held is None else self._rows[held][element]
            if self._levels[held] >= level:
                pieces.append((start, place + 1))
                start = place + 1
                held = None
        return pieces, start

    def labels(self, sequence, pieces):
        """Return the labels of the gaps between pieces whose products are in one level with that of the sequence."""
        products = [multiplied(self._rows, sequence[start:stop]) for start, stop in pieces]
        labels = []
        # For each cell that a gap has had, by its idempotent: the product of the pieces since its first gap.
        since = {}
        for before, after in zip(products, products[1:]):
            since = {cell: self._rows[value][before] for cell, value in since.items()}
            identity = self._identity_between(before, after)
            labels.append((identity, since.setdefault(identity, identity)))
        return labels

    def _identity_between(self, before, after):
        """Return the idempotent that is left-equivalent to the one element and right-equivalent to the other one."""
        left, right = self._left_classes[before], self._right_classes[after]
        return [element for element in self._idempotents if element in left and element in right][0]


class TreeBuilder:
    """The nodes of a tree while it is built; what appends nodes returns the index of the root of what it appended."""

    def __init__(self, table):
        self._cutter = Cutter(table)
        self._nodes = []

    def built(self, sequence):
        """Return the nodes of a tree of the sequence."""
        self._add_sequence(sequence)
        return list(self._nodes)

    def _add_sequence(self, sequence):
        """Append a tree of the sequence, cut at the level of its product."""
        pieces, rest = self._cutter.cut(sequence, self._cutter.level_of_product(sequence))
        roots = [self._add_piece(sequence[start:stop]) for start, stop in pieces]
        root = self._add_parts(roots, self._cutter.labels(sequence, pieces))
        if rest == len(sequence):
            return root
        return self._add_inner([root, self._add_sequence(sequence[rest:])])

    def _add_piece(self, piece):
        """Append a tree of the piece; without its last element, its product is in a level before that of the piece."""
        last = piece[-1]
        if len(piece) == 1:
            return self._add_node(last)
        return self._add_inner([self._add_sequence(piece[:-1]), self._add_node(last)])

    def _add_parts(self, roots, labels):
        """Append a tree over these roots, with the labels of the gaps between them."""
        if not labels:
            return roots[0]
        # The product between two gaps with equal labels is the identity of the label. So the parts between the first
        # and the last gap with this label may be the children of one node, and no part contains this label again.
        cuts = [place + 1 for place, label in enumerate(labels) if label == labels[0]]
        bounds = [0] + cuts + [len(roots)]
        parts = [self._add_parts(roots[start:stop], labels[start:stop - 1]) for start, stop in zip(bounds, bounds[1:])]
        first, last = parts[0], parts[-1]
        if len(parts) > 2:
            first = self._add_inner([first, self._add_inner(parts[1:-1])])
        return self._add_inner([first, last])

    def _add_inner(self, children):
        """Append an inner node with these children, unless there is only one."""
        if len(children) == 1:
            return children[0]
        return self._add_node(tuple(children))

    def _add_node(self, node):
        """Append the node."""
        self._nodes.append(node)
        return len(self._nodes) - 1
