"""Product tables: finite sets with an associative multiplication."""

from producttrees.errors import InvalidElement, InvalidInteger, InvalidOrder, InvalidSequence, InvalidTable
from producttrees.errors import NotAssociative
from producttrees.validation import is_integer, is_list, is_number_below, is_number_list

LARGEST_TABLE = 16
LONGEST_SEQUENCE = 2000


class ProductTable:
    """An associative multiplication of the integers from 0 up; it never changes."""

    def __init__(self, rows):
        if not _are_rows(rows):
            raise InvalidTable(rows)
        triple = _first_wrong_triple(rows)
        if triple is not None:
            raise NotAssociative(triple)
        self._rows = tuple([tuple(row) for row in rows])

    def __len__(self):
        return len(self._rows)

    def __eq__(self, other):
        return isinstance(other, ProductTable) and self._rows == other._rows

    def rows(self):
        """Return the rows; item b of row a is the product a*b."""
        return [list(row) for row in self._rows]

    def product(self, first, second):
        """Return first*second."""
        check_element(self, first)
        check_element(self, second)
        return self._rows[first][second]

    def power(self, element, count):
        """Return the product of count copies of the element."""
        check_element(self, element)
        if not is_integer(count) or count < 1:
            raise InvalidInteger(count)
        # A count may have thirty digits, so the power is squared once for each binary digit after the first.
        result = element
        for place in reversed(range(count.bit_length() - 1)):
            result = self._rows[result][result]
            if (count >> place) & 1 == 1:
                result = self._rows[result][element]
        return result

    def idempotents(self):
        """Return the elements that are their own squares."""
        return [element for element in range(len(self._rows)) if self._rows[element][element] == element]

    def identity(self):
        """Return the element that leaves every element as it is, on either side, or None."""
        numbers = list(range(len(self._rows)))
        for element in numbers:
            column = [row[element] for row in self._rows]
            if list(self._rows[element]) == numbers and column == numbers:
                return element
        return None

    def generated(self, generators):
        """Return all products of one or more of the generators, in ascending order."""
        check_sequence(self, generators)
        distinct = sorted(set(generators))
        reached = list(distinct)
        waiting = list(distinct)
        # Every product of generators arises from one of them by multiplying on the right.
        while waiting:
            row = self._rows[waiting.pop()]
            for generator in distinct:
                if row[generator] not in reached:
                    reached.append(row[generator])
                    waiting.append(row[generator])
        return sorted(reached)

    def subtable(self, generators):
        """Return the table of the generated elements, numbered by their places, and the list of these elements."""
        originals = self.generated(generators)
        return self._table_of(originals), originals

    def renumbered(self, order):
        """Return the table in which the element order[i] of this one has the number i."""
        size = len(self._rows)
        if not is_number_list(order, size, size, size) or len(set(order)) < size:
            raise InvalidOrder(order)
        return self._table_of(order)

    def _table_of(self, originals):
        """Return the table of these elements, which contain all their products, numbered by their places."""
        return ProductTable([[originals.index(self._rows[a][b]) for b in originals] for a in originals])


def check_table(table):
    """Raise an error unless the value is a product table."""
    if not isinstance(table, ProductTable):
        raise InvalidTable(table)


def check_element(table, element):
    """Raise an error unless the value is an element of the table."""
    if not is_number_below(element, len(table)):
        raise InvalidElement(element)


def check_sequence(table, sequence):
    """Raise an error unless the value is a sequence of the table."""
    if not is_number_list(sequence, 1, LONGEST_SEQUENCE, len(table)):
        raise InvalidSequence(sequence)


def _are_rows(rows):
    """Tell whether the value is a square list of rows of elements."""
    if not is_list(rows, 1, LARGEST_TABLE):
        return False
    size = len(rows)
    return all([is_number_list(row, size, size, size) for row in rows])


def _first_wrong_triple(rows):
    """Return the first (a, b, c) for which (a*b)*c differs from a*(b*c), or None."""
    size = len(rows)
    for a in range(size):
        for b in range(size):
            for c in range(size):
                if rows[rows[a][b]][c] != rows[a][rows[b][c]]:
                    return (a, b, c)
    return None
