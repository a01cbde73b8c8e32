"""Sequence buffers: sequences that change, with named marks and with changes that can be undone."""

from producttrees.building import build_tree
from producttrees.coloring import gap_colors
from producttrees.errors import InvalidInteger, InvalidName, InvalidRange, NothingToUndo, TooMany, UnknownName
from producttrees.tables import LONGEST_SEQUENCE, check_sequence, check_table
from producttrees.trees import multiplied
from producttrees.validation import is_name, is_number_below, is_range

_MOST_MARKS = 20
_MOST_CHANGES = 300


class SequenceBuffer:
    """The elements of a sequence and its marks.

    Each change replaces the tuple of the elements and the dict of the marks by new ones, so that what a change has
    left behind, and what a copy holds, stays as it is.
    """

    def __init__(self, table):
        check_table(table)
        self._table = table
        self._sequence = ()
        self._marks = {}
        self._changes = []

    def __len__(self):
        return len(self._sequence)

    def __eq__(self, other):
        if not isinstance(other, SequenceBuffer):
            return False
        return self._table == other._table and self._sequence == other._sequence and self._marks == other._marks

    def table(self):
        """Return the table."""
        return self._table

    def sequence(self):
        """Return the elements."""
        return list(self._sequence)

    def marks(self):
        """Return the places of the marks by their names, in ascending order of the places and then of the names."""
        pairs = sorted([(place, name) for name, place in self._marks.items()])
        return {name: place for place, name in pairs}

    def append(self, sequence):
        """Add the elements of a sequence at the end."""
        check_sequence(self._table, sequence)
        length = len(self._sequence) + len(sequence)
        if length > LONGEST_SEQUENCE:
            raise TooMany(length)
        self._change(self._sequence + tuple(sequence), self._marks)

    def truncate(self, length):
        """Keep the first elements, so many of them, and the marks up to there."""
        self._check_place(length)
        kept = {name: place for name, place in self._marks.items() if place <= length}
        self._change(self._sequence[:length], kept)

    def set_mark(self, name, place=None):
        """Set or move a mark, to the end if no place is named."""
        if not is_name(name):
            raise InvalidName(name)
        if place is not None:
            self._check_place(place)
        marks = dict(self._marks)
        marks[name] = len(self._sequence) if place is None else place
        if len(marks) > _MOST_MARKS:
            raise TooMany(len(marks))
        self._change(self._sequence, marks)

    def remove_mark(self, name):
        """Remove a mark."""
        if not isinstance(name, str) or name not in self._marks:
            raise UnknownName(name)
        self._change(self._sequence, {other: place for other, place in self._marks.items() if other != name})

    def undo(self):
        """Restore the elements and the marks from before the last change that has not been undone."""
        if not self._changes:
            raise NothingToUndo()
        self._sequence, self._marks = self._changes.pop()

    def product(self, start=0, stop=None):
        """Return the product of a range; a bound is a place or the name of a mark."""
        self._check_known(start)
        self._check_known(stop)
        low = self._place_of(start)
        high = len(self._sequence) if stop is None else self._place_of(stop)
        if not is_range(low, high, len(self._sequence)):
            raise InvalidRange((start, stop))
        return multiplied(self._table.rows(), self._sequence[low:high])

    def colors(self):
        """Return the color of each gap of the sequence."""
        return gap_colors(self._table, self._sequence) if self._sequence else []

    def tree(self):
        """Return a valid tree of the sequence, no higher than the height bound of the table."""
        return build_tree(self._table, self.sequence())

    def copied(self):
        """Return an independent buffer with the same table, elements, marks and changes that can be undone."""
        buffer = SequenceBuffer(self._table)
        buffer._sequence = self._sequence
        buffer._marks = self._marks
        buffer._changes = list(self._changes)
        return buffer

    def _change(self, sequence, marks):
        """Put these elements and marks in the place of the present ones, which an undo restores."""
        if len(self._changes) == _MOST_CHANGES:
            raise TooMany(_MOST_CHANGES + 1)
        self._changes.append((self._sequence, self._marks))
        self._sequence = sequence
        self._marks = marks

    def _check_place(self, place):
        """Raise an error unless the value is a place of the buffer."""
        if not is_number_below(place, len(self._sequence) + 1):
            raise InvalidInteger(place)

    def _check_known(self, bound):
        """Raise an error if the bound is a string, but not the name of a mark."""
        if isinstance(bound, str) and bound not in self._marks:
            raise UnknownName(bound)

    def _place_of(self, bound):
        """Return the place that a bound stands for, or the bound itself if it stands for none."""
        return self._marks[bound] if isinstance(bound, str) else bound
