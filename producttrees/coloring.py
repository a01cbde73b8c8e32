"""Gap colors: each gap of a growing sequence is given a color that depends only on the elements before it."""

from producttrees.errors import InvalidColors, TooMany
from producttrees.levels import level_numbers, levels, right_classes
from producttrees.tables import LONGEST_SEQUENCE, check_element, check_sequence, check_table
from producttrees.trees import multiplied
from producttrees.validation import is_color_list

_LONGEST_CHECKED = 200


def gap_colors(table, sequence):
    """Return the color of each gap of the sequence."""
    check_table(table)
    check_sequence(table, sequence)
    colorer = GapColorer(table)
    return [colorer.push(element) for element in sequence]


class GapColorer:
    """Colors the gaps of a growing sequence.

    A gap is cut at the last level that a product reaches there whose factors begin at the last gap cut at this level
    or a later one. Between gaps that are cut at later levels, all products of ranges between gaps cut at one level
    are in this level. So the products from the beginning of such a stretch to these gaps are in one right class,
    and where two of them are equal, each factor between is a right identity of them and of all such factors.
    """

    def __init__(self, table):
        check_table(table)
        self._table = table
        self._rows = table.rows()
        self._levels = level_numbers(table)
        self._shades = _color_of_each(table)
        self._colors = []
        # Item k is the product of the elements since the last gap cut at a level after k; None if there are none.
        self._held = [None] * len(levels(table))

    def __len__(self):
        return len(self._colors)

    def push(self, element):
        """Append the element and return the color of the new last gap."""
        check_element(self._table, element)
        if len(self._colors) == LONGEST_SEQUENCE:
            raise TooMany(LONGEST_SEQUENCE + 1)
        held = [element if old is None else self._rows[old][element] for old in self._held]
        level = 0
        for later in range(1, len(held)):
            if self._levels[held[later - 1]] >= later:
                level = later
        self._held = [None] * level + held[level:]
        self._colors.append(self._shades[held[level]])
        return self._colors[-1]

    def colors(self):
        """Return the colors of all gaps so far."""
        return list(self._colors)

    def state(self):
        """Return all that the colors of further elements depend on."""
        return tuple(self._held)

    def copied(self):
        """Return an independent colorer with the same table, colors and state."""
        colorer = GapColorer(self._table)
        colorer._colors = list(self._colors)
        colorer._held = list(self._held)
        return colorer


def first_color_error(table, sequence, colors):
    """Return None if the colors are correct, and otherwise the first (x, y, u, v) that shows the contrary."""
    check_table(table)
    check_sequence(table, sequence)
    if not is_color_list(colors, len(sequence), len(sequence)):
        raise InvalidColors(colors)
    if len(sequence) > _LONGEST_CHECKED:
        raise TooMany(len(sequence))
    rows = table.rows()
    errors = []
    for gaps in _connected_gaps(colors):
        error = _first_error_among(rows, _products_between(rows, sequence, gaps))
        if error is not None:
            errors.append(error)
    return min(errors, default=None)


def _color_of_each(table):
    """Return, for each element, the color of a gap where it is the product of the stretch before it."""
    classes = right_classes(table)
    idempotents = table.idempotents()
    shades = [0] * len(table)
    first = 1
    # Cuts at later levels separate more, so these levels have the smaller colors.
    for level in reversed(levels(table)):
        if any([element in idempotents for element in level]):
            for element in level:
                shades[element] = first + classes[element].index(element)
            first += len(classes[level[0]])
        else:
            # A product of two elements of such a level is not in it, so a stretch has only one gap.
            for element in level:
                shades[element] = first
            first += 1
    return shades


def _connected_gaps(colors):
    """Return the lists of gaps of one color of which every two are connected."""
    found = []
    # For each color that no smaller one has ended: the gaps of this color.
    going = {}
    for place, color in enumerate(colors):
        going = {other: gaps for other, gaps in going.items() if other <= color}
        if color not in going:
            going[color] = []
            found.append(going[color])
        going[color].append(place + 1)
    return found


def _products_between(rows, sequence, gaps):
    """Return the product between every two of the gaps, by these two, in ascending order."""
    steps = [multiplied(rows, sequence[low:high]) for low, high in zip(gaps, gaps[1:])]
    products = {}
    for at, first in enumerate(gaps):
        held = None
        for step, last in zip(steps[at:], gaps[at + 1:]):
            held = step if held is None else rows[held][step]
            products[(first, last)] = held
    return products


def _first_error_among(rows, products):
    """Return the first pair of pairs of gaps whose products e and f have another product than e, or None."""
    firsts = {}
    for pair, element in products.items():
        firsts.setdefault(element, pair)
    for pair, element in products.items():
        wrong = [firsts[other] for other in firsts if rows[element][other] != element]
        if wrong:
            return pair + min(wrong)
    return None
