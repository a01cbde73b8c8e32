"""Equivalent elements of a table: their classes, the order of their levels, and the bounds that depend on them."""

from producttrees.errors import NotInGroup
from producttrees.tables import check_element, check_table


def right_class(table, element):
    """Return the elements that are right-equivalent to the element."""
    check_table(table)
    check_element(table, element)
    return right_classes(table)[element]


def left_class(table, element):
    """Return the elements that are left-equivalent to the element."""
    check_table(table)
    check_element(table, element)
    return left_classes(table)[element]


def right_classes(table):
    """Return the right class of each element."""
    return _classes(_right_multiples(table.rows()))


def left_classes(table):
    """Return the left class of each element."""
    return _classes(_left_multiples(table.rows()))


def cell_of(table, element):
    """Return the elements that are both right-equivalent and left-equivalent to the element."""
    right = right_class(table, element)
    left = left_class(table, element)
    return [other for other in right if other in left]


def levels(table):
    """Return the levels in their order, each as the list of its elements."""
    check_table(table)
    multiples = _multiples(table.rows())
    classes = _classes(multiples)
    waiting = list(range(len(table)))
    found = []
    while waiting:
        level = classes[_first_free(multiples, waiting)]
        found.append(level)
        waiting = [element for element in waiting if element not in level]
    return found


def level_of(table, element):
    """Return the number of the level that contains the element."""
    check_table(table)
    check_element(table, element)
    return level_numbers(table)[element]


def level_numbers(table):
    """Return the number of the level of each element."""
    numbers = [0] * len(table)
    for number, level in enumerate(levels(table)):
        for element in level:
            numbers[element] = number
    return numbers


def find_factors(table, start, goal):
    """Return the first (left, right) that make goal of start, where None is an absent factor, or None."""
    check_table(table)
    check_element(table, start)
    check_element(table, goal)
    rows = table.rows()
    factors = [None] + list(range(len(rows)))
    for left in factors:
        begun = start if left is None else rows[left][start]
        for right in factors:
            made = begun if right is None else rows[begun][right]
            if made == goal:
                return (left, right)
    return None


def is_above(table, first, second):
    """Tell whether the level of the first element is above the level of the second one."""
    check_table(table)
    check_element(table, first)
    check_element(table, second)
    multiples = _multiples(table.rows())
    return second in multiples[first] and first not in multiples[second]


def group_cells(table):
    """Return the idempotent and the members of each group cell, ordered by the idempotents."""
    check_table(table)
    return [(identity, cell_of(table, identity)) for identity in table.idempotents()]


def inverse(table, element):
    """Return the inverse of the element within its group cell."""
    check_table(table)
    check_element(table, element)
    for identity, members in group_cells(table):
        if element in members:
            # The members form a group, so what is inverse on the right is so on the left, too.
            return [other for other in members if table.product(element, other) == identity][0]
    raise NotInGroup(element)


def height_bound(table):
    """Return a height that no built tree exceeds."""
    check_table(table)
    grouped = sum([len(members) for _, members in group_cells(table)])
    return 2 * len(levels(table)) - 2 + 3 * grouped


def color_bound(table):
    """Return the greatest color that a gap is given."""
    check_table(table)
    idempotents = table.idempotents()
    total = 0
    for level in levels(table):
        if any([element in idempotents for element in level]):
            total += len(right_class(table, level[0]))
        else:
            total += 1
    return total


def _right_multiples(rows):
    """Return, for each element, the element itself and all its products with a factor on its right."""
    return [sorted(set(row + [element])) for element, row in enumerate(rows)]


def _left_multiples(rows):
    """Return, for each element, the element itself and all its products with a factor on its left."""
    return _right_multiples([[row[element] for row in rows] for element in range(len(rows))])


def _multiples(rows):
    """Return, for each element, the element itself and all its products with factors on any side."""
    left = _left_multiples(rows)
    return [sorted({made for begun in right for made in left[begun]}) for right in _right_multiples(rows)]


def _classes(multiples):
    """Return the class of each element; two elements are made of each other if they have the same multiples."""
    numbers = list(range(len(multiples)))
    return [[other for other in numbers if multiples[other] == own] for own in multiples]


def _first_free(multiples, waiting):
    """Return the smallest of the waiting elements above whose levels no level is waiting."""
    free = []
    for element in waiting:
        makers = [other for other in waiting if element in multiples[other]]
        if all([other in multiples[element] for other in makers]):
            free.append(element)
    return free[0]
