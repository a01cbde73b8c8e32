"""The product index: products of ranges of a sequence, from the stored products of a tree."""

from producttrees.building import build_tree
from producttrees.errors import FaultyTree, InvalidRange, InvalidSequence
from producttrees.tables import LARGEST_TABLE
from producttrees.trees import first_tree_error, multiplied, tree_height, tree_products, tree_spans
from producttrees.validation import is_number_below, is_number_list, is_range


class ProductIndex:
    """A sequence with a valid tree of it, which answers the product of any range; it never changes."""

    def __init__(self, table, sequence, *, tree=None):
        if tree is None:
            nodes = build_tree(table, sequence)
        else:
            error = first_tree_error(table, sequence, tree)
            if error is not None:
                kind, index = error
                raise FaultyTree(kind, index)
            nodes = list(tree)
        self._table = table
        self._rows = table.rows()
        self._sequence = list(sequence)
        self._nodes = nodes
        self._height = tree_height(nodes)
        self._spans = tree_spans(nodes)
        self._products = tree_products(table, nodes)

    def __len__(self):
        return len(self._sequence)

    def table(self):
        """Return the table."""
        return self._table

    def sequence(self):
        """Return the elements of the sequence."""
        return list(self._sequence)

    def tree(self):
        """Return the nodes of the tree."""
        return list(self._nodes)

    def height(self):
        """Return the height of the tree."""
        return self._height

    def product(self, start, stop):
        """Return the product of the elements in the range."""
        self._check_range(start, stop)
        # The nodes of one run have the same product, which is idempotent, so that of the first one will do.
        return multiplied(self._rows, [self._products[run[0]] for run in self._runs_of(start, stop)])

    def parts(self, start, stop):
        """Return ranges that make up the range, each the span of a node or of consecutive children of a node."""
        self._check_range(start, stop)
        return [self._span_of(run) for run in self._runs_of(start, stop)]

    def longest_range(self, start, allowed):
        """Return the greatest stop for which the product of the range is one of the allowed elements, or None."""
        if not is_number_below(start, len(self._sequence)):
            raise InvalidRange((start, None))
        if not is_number_list(allowed, 0, LARGEST_TABLE, len(self._rows)):
            raise InvalidSequence(allowed)
        longest = None
        held = None
        for place in range(start, len(self._sequence)):
            element = self._sequence[place]
            held = element if held is None else self._rows[held][element]
            if held in allowed:
                longest = place + 1
        return longest

    def _check_range(self, start, stop):
        """Raise an error unless the bounds are those of a range of the sequence."""
        if not is_range(start, stop, len(self._sequence)):
            raise InvalidRange((start, stop))

    def _runs_of(self, start, stop):
        """Return the runs of nodes that make up the range: single nodes, or neighboring children of one node."""
        found = []
        # The runs that are still to be looked at, the leftmost one at the end. A tree may be too deep for recursion.
        waiting = [[len(self._nodes) - 1]]
        while waiting:
            run = waiting.pop()
            if self._is_within(run, start, stop):
                found.append(run)
            else:
                waiting.extend(self._runs_below(run[0], start, stop)[::-1])
        return found

    def _runs_below(self, node, start, stop):
        """Return the children of a node that share elements with the range; those wholly within it are one run."""
        runs = []
        whole = False
        for child in self._nodes[node]:
            low, high = self._spans[child]
            if high <= start or stop <= low:
                continue
            # Of two children at most one is within the range, or else the node itself would be.
            if whole and self._is_within([child], start, stop):
                runs[-1].append(child)
            else:
                runs.append([child])
                whole = self._is_within([child], start, stop)
        return runs

    def _is_within(self, run, start, stop):
        """Tell whether the span of the run lies within the range."""
        low, high = self._span_of(run)
        return start <= low and high <= stop

    def _span_of(self, run):
        """Return the range that the nodes of the run make up."""
        return (self._spans[run[0]][0], self._spans[run[-1]][1])
