"""Minimal heights of product trees, for sequences of at most forty elements."""

from producttrees.errors import InvalidHeights, TooMany
from producttrees.tables import check_sequence, check_table
from producttrees.validation import is_integer, is_list

_LONGEST = 40


def height_table(table, sequence):
    """Return, for each start, the minimal heights of the ranges that begin there, the shortest range first."""
    check_table(table)
    check_sequence(table, sequence)
    _check_length(sequence)
    return HeightFinder(table, sequence).rows()


def minimal_height(table, sequence):
    """Return the minimal height of the whole sequence."""
    return height_table(table, sequence)[0][-1]


def first_height_error(table, sequence, heights):
    """Return None if these are the minimal heights of all ranges, and otherwise the first range with a wrong one."""
    check_table(table)
    check_sequence(table, sequence)
    count = len(sequence)
    if not _are_heights(heights, count):
        raise InvalidHeights(heights)
    _check_length(sequence)
    rows = HeightFinder(table, sequence).rows()
    for length in range(1, count + 1):
        for start in range(count - length + 1):
            if heights[start][length - 1] != rows[start][length - 1]:
                return (start, start + length)
    return None


def minimal_tree(table, sequence):
    """Return a valid tree of the sequence whose height is the minimal height."""
    check_table(table)
    check_sequence(table, sequence)
    _check_length(sequence)
    return HeightFinder(table, sequence).tree()


class HeightFinder:
    """The minimal heights of all ranges of a sequence, and the cuts that lead to them; ranges are (start, stop)."""

    def __init__(self, table, sequence):
        self._sequence = sequence
        self._rows = table.rows()
        self._products = {}
        # The minimal height of each range, and the places at which a lowest tree of it cuts it.
        self._heights = {}
        self._cuts = {}
        # For each range, of all ways to cut it into one or more ranges with its own product: the smallest number that
        # is the greatest of their minimal heights, and the places of this way.
        self._runs = {}
        self._find_all()

    def rows(self):
        """Return the rows of the height table."""
        count = len(self._sequence)
        return [[self._heights[(start, stop)] for stop in range(start + 1, count + 1)] for start in range(count)]

    def tree(self):
        """Return the nodes of a lowest tree of the sequence."""
        nodes = []
        self._add_tree(nodes, 0, len(self._sequence))
        return nodes

    def _find_all(self):
        """Work out all ranges; those that a range may be cut into are shorter."""
        count = len(self._sequence)
        for start, element in enumerate(self._sequence):
            self._products[(start, start + 1)] = element
            self._heights[(start, start + 1)] = 0
            self._runs[(start, start + 1)] = (0, [start, start + 1])
        for length in range(2, count + 1):
            for start in range(count - length + 1):
                self._find(start, start + length)

    def _find(self, start, stop):
        """Work out a range of two or more elements."""
        product = self._rows[self._products[(start, stop - 1)]][self._sequence[stop - 1]]
        self._products[(start, stop)] = product
        pairs = []
        parted = []
        for cut in range(start + 1, stop):
            height = self._heights[(start, cut)]
            pairs.append((max(height, self._heights[(cut, stop)]), [start, cut, stop]))
            # If both ranges beside a cut have the product of the whole one, it is idempotent.
            if self._products[(start, cut)] == product and self._products[(cut, stop)] == product:
                rest, places = self._runs[(cut, stop)]
                parted.append((max(height, rest), [start] + places))
        # A way that cuts only once may also be among the others; as a pair it is as high.
        lowest, cuts = min(pairs + parted)
        self._heights[(start, stop)] = lowest + 1
        self._cuts[(start, stop)] = cuts
        self._runs[(start, stop)] = min(parted + [(lowest + 1, [start, stop])])

    def _add_tree(self, nodes, start, stop):
        """Append a lowest tree of the range to the nodes, and return the index of its root."""
        if stop - start == 1:
            nodes.append(self._sequence[start])
        else:
            cuts = self._cuts[(start, stop)]
            nodes.append(tuple([self._add_tree(nodes, low, high) for low, high in zip(cuts, cuts[1:])]))
        return len(nodes) - 1


def _are_heights(heights, count):
    """Tell whether the value has the form of a height table of so many elements."""
    if not is_list(heights, count, count):
        return False
    return all([_is_height_row(row, count - start) for start, row in enumerate(heights)])


def _is_height_row(row, length):
    """Tell whether the value is a list of so many integers of at least 0."""
    return is_list(row, length, length) and all([is_integer(height) and height >= 0 for height in row])


def _check_length(sequence):
    """Raise an error if the sequence is too long for minimal heights."""
    if len(sequence) > _LONGEST:
        raise TooMany(len(sequence))
