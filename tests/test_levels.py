"""Promises [41] to [47]: equivalences and levels."""

import itertools
import random
import unittest

from producttrees.errors import InvalidElement, InvalidTable, NotInGroup
from producttrees.levels import (cell_of, color_bound, find_factors, group_cells, height_bound, inverse, is_above,
                                 left_class, level_of, levels, right_class)
from producttrees.tables import ProductTable
from tests.helpers import (LEFT_ZERO, LOW, NULL, PARITY, SWITCH, RaiseCheck, cyclic_rows, left_zero_rows, lowest_rows,
                           matrix_rows, nilpotent_rows, opposite, pair_rows, right_zero_rows, symmetric_rows,
                           values_that_are_no_element, values_that_are_no_table, various_tables)

parity = ProductTable(PARITY)
low = ProductTable(LOW)
switch = ProductTable(SWITCH)
left_zero = ProductTable(LEFT_ZERO)

ONE_ELEMENT = (right_class, left_class, cell_of, level_of, inverse)
TWO_ELEMENTS = (find_factors, is_above)
BOTH = ("left", "right")
ONLY_TABLE = (levels, group_cells, height_bound, color_bound)


def made_on(table, first, second, sides):
    """Tell whether the second element is the first one, or made of it by factors on these sides."""
    rows, numbers = table.rows(), range(len(table))
    made = [first]
    if "right" in sides:
        made += [rows[first][x] for x in numbers]
    if "left" in sides:
        made += [rows[x][first] for x in numbers]
    if "left" in sides and "right" in sides:
        made += [rows[rows[x][first]][y] for x in numbers for y in numbers]
    return second in made


def alike(table, first, second, sides):
    return made_on(table, first, second, sides) and made_on(table, second, first, sides)


def classes(table, sides):
    """Return the class of each element."""
    numbers = range(len(table))
    return [[other for other in numbers if alike(table, element, other, sides)] for element in numbers]


def expected_levels(table):
    """Return the levels, ordered by their definition."""
    waiting = []
    for level in classes(table, BOTH):
        if level not in waiting:
            waiting.append(level)
    ordered = []
    while waiting:
        possible = [level for level in waiting
                    if not any(made_on(table, other[0], level[0], BOTH) for other in waiting if other != level)]
        ordered.append(min(possible, key=min))
        waiting.remove(ordered[-1])
    return ordered


TABLES = various_tables()


class ClassesTest(unittest.TestCase):
    def test_example(self):
        results = [right_class(switch, 2), right_class(left_zero, 0), left_class(left_zero, 0), cell_of(left_zero, 0)]
        self.assertEqual(results, [[1, 2], [0], [0, 1], [0]])

    def test_classes_by_their_definition(self):
        for table in TABLES:
            rights, lefts = classes(table, ("right",)), classes(table, ("left",))
            for element in range(len(table)):
                both = [other for other in rights[element] if other in lefts[element]]
                self.assertEqual(right_class(table, element), rights[element])
                self.assertEqual(left_class(table, element), lefts[element])
                self.assertEqual(cell_of(table, element), both)
                self.assertIn(element, both)

    def test_one_sided_rules(self):
        left, right = ProductTable(left_zero_rows(16)), ProductTable(right_zero_rows(16))
        everything = list(range(16))
        for element in everything:
            self.assertEqual([right_class(left, element), left_class(left, element)], [[element], everything])
            self.assertEqual([right_class(right, element), left_class(right, element)], [everything, [element]])
            self.assertEqual([cell_of(left, element), cell_of(right, element)], [[element], [element]])

    def test_one_and_sixteen_elements(self):
        single, circle = ProductTable([[0]]), ProductTable(cyclic_rows(16))
        for function in (right_class, left_class, cell_of):
            self.assertEqual(function(single, 0), [0])
            self.assertEqual(function(circle, 15), list(range(16)))
            self.assertEqual(function(ProductTable(lowest_rows(16)), 9), [9])

    def test_elements_that_are_not_their_own_multiples(self):
        # In a null table 1 is made of nothing but itself, with no factor.
        for function in (right_class, left_class, cell_of):
            self.assertEqual([function(ProductTable(NULL), 0), function(ProductTable(NULL), 1)], [[0], [1]])

    def test_by_name(self):
        self.assertEqual(right_class(element=2, table=switch), [1, 2])
        self.assertEqual(left_class(element=2, table=switch), [1, 2])
        self.assertEqual(cell_of(element=0, table=left_zero), [0])

    def test_opposite_tables(self):
        for table in TABLES:
            for element in range(len(table)):
                self.assertEqual(right_class(opposite(table), element), left_class(table, element))
                self.assertEqual(cell_of(opposite(table), element), cell_of(table, element))


class LevelsTest(unittest.TestCase):
    def test_example(self):
        results = [levels(switch), levels(low), level_of(low, 0), levels(parity)]
        self.assertEqual(results, [[[1, 2], [0]], [[1], [0]], 1, [[0, 1]]])

    def test_levels_by_their_definition(self):
        for table in TABLES:
            expected = expected_levels(table)
            self.assertEqual(levels(table), expected)
            for number, level in enumerate(expected):
                for element in level:
                    self.assertEqual(level_of(table, element), number)

    def test_levels_beside_each_other(self):
        # Products of different elements of these tables are the last one.
        for size in (2, 3, 16):
            apart = ProductTable([[a if a == b else size - 1 for b in range(size)] for a in range(size)])
            self.assertEqual(levels(apart), [[element] for element in range(size)])
            order = list(range(size))[::-1]
            self.assertEqual(levels(apart.renumbered(order)), [[element] for element in range(1, size)] + [[0]])

    def test_a_late_level_with_a_small_element(self):
        # 3 is above all others. Then 0 and 2 are possible, but 1 is not, since 2 is above it. 4 is below all others.
        rows = [[0, 4, 4, 0, 4], [4, 1, 1, 1, 4], [4, 1, 2, 2, 4], [0, 1, 2, 3, 4], [4, 4, 4, 4, 4]]
        self.assertEqual(levels(ProductTable(rows)), [[3], [0], [2], [1], [4]])

    def test_chains(self):
        self.assertEqual(levels(ProductTable(lowest_rows(16))), [[element] for element in range(15, -1, -1)])
        self.assertEqual(levels(ProductTable(nilpotent_rows(16))), [[element] for element in range(16)])
        self.assertEqual(levels(ProductTable([[0]])), [[0]])
        self.assertEqual(level_of(ProductTable(lowest_rows(16)), 3), 12)

    def test_several_cells_in_a_level(self):
        self.assertEqual(levels(ProductTable(left_zero_rows(16))), [list(range(16))])
        self.assertEqual(levels(ProductTable(matrix_rows(2, 2, [[1, 0], [0, 1]]))), [[0, 1, 2, 3], [4]])
        self.assertEqual(levels(ProductTable(matrix_rows(1, 3, [[0], [0], [0]]))), [[0], [1], [2], [3]])

    def test_renumbered_tables(self):
        draw = random.Random(11)
        for table in TABLES:
            order = list(range(len(table)))
            draw.shuffle(order)
            new = table.renumbered(order)
            self.assertEqual(levels(new), expected_levels(new))
            renamed = [sorted(order[element] for element in level) for level in levels(new)]
            self.assertEqual(sorted(renamed), sorted(levels(table)))
            for element in range(len(table)):
                cell = sorted(order[other] for other in cell_of(new, element))
                self.assertEqual(cell, cell_of(table, order[element]))

    def test_by_name(self):
        self.assertEqual([levels(table=low), level_of(element=0, table=low)], [[[1], [0]], 1])

    def test_products_are_at_no_earlier_level(self):
        for table in TABLES:
            numbers = [level_of(table, element) for element in range(len(table))]
            for a, b in itertools.product(range(len(table)), repeat=2):
                made = table.product(a, b)
                self.assertGreaterEqual(numbers[made], max(numbers[a], numbers[b]))
                if numbers[made] == numbers[a]:
                    self.assertIn(made, right_class(table, a))
                if numbers[made] == numbers[b]:
                    self.assertIn(made, left_class(table, b))


class FactorsTest(unittest.TestCase):
    def test_example(self):
        results = [find_factors(switch, 1, 0), find_factors(switch, 0, 1), find_factors(low, 0, 0),
                   is_above(switch, 2, 0)]
        self.assertEqual(results, [(None, 0), None, (None, None), True])

    def test_first_factors_by_trying_all(self):
        for table in TABLES:
            rows = table.rows()
            factors = [None] + list(range(len(table)))
            for start in range(len(table)):
                first = {}
                for left, right in itertools.product(factors, repeat=2):
                    made = start if left is None else rows[left][start]
                    first.setdefault(made if right is None else rows[made][right], (left, right))
                for goal in range(len(table)):
                    self.assertEqual(find_factors(table, start, goal), first.get(goal))

    def test_every_kind_of_factors(self):
        pairs = ProductTable(matrix_rows(2, 2, [[1, 0], [0, 1]]))
        # The elements 0 to 3 are the pairs (0, 0), (0, 1), (1, 0) and (1, 1).
        self.assertEqual(find_factors(pairs, 0, 0), (None, None))
        self.assertEqual(find_factors(pairs, 0, 1), (None, 1))
        self.assertEqual(find_factors(pairs, 0, 2), (2, None))
        self.assertEqual(find_factors(pairs, 0, 3), (2, 1))
        self.assertEqual(find_factors(pairs, 0, 4), (None, 2))
        self.assertIsNone(find_factors(pairs, 4, 0))
        self.assertEqual(find_factors(goal=2, start=0, table=pairs), (2, None))

    def test_is_above_by_its_definition(self):
        for table in TABLES:
            for first, second in itertools.product(range(len(table)), repeat=2):
                expected = (made_on(table, first, second, BOTH)
                            and not made_on(table, second, first, BOTH))
                self.assertIs(is_above(table, first, second), expected)

    def test_is_above(self):
        for table in (parity, left_zero, switch):
            self.assertIs(is_above(table, 1, 1), False)
        self.assertIs(is_above(switch, 1, 2), False)
        self.assertIs(is_above(switch, 0, 2), False)
        self.assertIs(is_above(second=0, first=1, table=ProductTable(NULL)), True)
        self.assertIs(is_above(ProductTable(matrix_rows(1, 3, [[0], [0], [0]])), 0, 1), False)


class GroupsTest(unittest.TestCase, RaiseCheck):
    def test_examples(self):
        results = [group_cells(switch), group_cells(ProductTable([[0, 0], [0, 0]]))]
        self.assertEqual(results, [[(0, [0]), (1, [1, 2])], [(0, [0])]])
        self.assertEqual([inverse(switch, 2), inverse(low, 0)], [2, 0])

    def test_group_cells_by_their_definition(self):
        for table in TABLES:
            rights, lefts = classes(table, ("right",)), classes(table, ("left",))
            expected = []
            for e in range(len(table)):
                if table.product(e, e) == e:
                    expected.append((e, [other for other in rights[e] if other in lefts[e]]))
            found = group_cells(table)
            self.assertEqual(found, expected)
            self.assertEqual([(type(cell), type(cell[1])) for cell in found], [(tuple, list)] * len(found))

    def test_several_group_cells_in_a_level(self):
        self.assertEqual(group_cells(left_zero), [(0, [0]), (1, [1])])
        circles = ProductTable(pair_rows(LEFT_ZERO, cyclic_rows(3)))
        self.assertEqual(group_cells(circles), [(0, [0, 1, 2]), (3, [3, 4, 5])])
        self.assertEqual(group_cells(ProductTable(matrix_rows(2, 2, [[1, 0], [0, 1]]))), [(0, [0]), (3, [3]), (4, [4])])
        self.assertEqual(group_cells(ProductTable(lowest_rows(16))), [(e, [e]) for e in range(16)])
        self.assertEqual(group_cells(table=ProductTable(cyclic_rows(16))), [(0, list(range(16)))])

    def test_inverses(self):
        for table in TABLES:
            for identity, members in group_cells(table):
                for element in members:
                    other = inverse(table, element)
                    self.assertIn(other, members)
                    self.assertEqual(table.product(element, other), identity)
                    self.assertEqual(table.product(other, element), identity)

    def test_inverses_in_groups(self):
        self.assertEqual([inverse(ProductTable(cyclic_rows(16)), k) for k in range(16)], [-k % 16 for k in range(16)])
        self.assertEqual([inverse(ProductTable(symmetric_rows()), k) for k in range(6)], [0, 1, 2, 4, 3, 5])
        self.assertEqual(inverse(element=2, table=switch), 2)
        # Both 0 and 1 give 0 with 0 on the left, but only 0 is in the cell of 0.
        self.assertEqual([inverse(left_zero, 0), inverse(left_zero, 1)], [0, 1])
        self.assertEqual([inverse(low, 0), inverse(low, 1)], [0, 1])

    def test_elements_outside_of_group_cells(self):
        refused = 0
        for table in TABLES:
            inside = [element for _, members in group_cells(table) for element in members]
            for element in range(len(table)):
                if element not in inside:
                    refused += 1
                    self.assertEqual(self.raised(NotInGroup, inverse, table, element).element, element)
        self.assertGreater(refused, 20)
        self.assertEqual(self.raised(NotInGroup, inverse, ProductTable(NULL), 1).element, 1)
        # A level with an idempotent has cells without one, too.
        pairs = ProductTable(matrix_rows(2, 2, [[1, 0], [0, 1]]))
        self.assertEqual(self.raised(NotInGroup, inverse, pairs, 2).element, 2)
        self.assertEqual(inverse(pairs, 3), 3)


class BoundsTest(unittest.TestCase):
    def test_example(self):
        null = ProductTable([[0, 0], [0, 0]])
        results = [height_bound(parity), height_bound(low), color_bound(parity), color_bound(null)]
        self.assertEqual(results, [6, 8, 2, 2])

    def test_bounds_by_their_definition(self):
        for table in TABLES:
            ordered = expected_levels(table)
            grouped = sum(len(members) for _, members in group_cells(table))
            self.assertEqual(height_bound(table), 2 * len(ordered) - 2 + 3 * grouped)
            colors = 0
            for level in ordered:
                lengths = {len(right_class(table, element)) for element in level}
                self.assertEqual(len(lengths), 1)
                colors += lengths.pop() if any(table.product(e, e) == e for e in level) else 1
            self.assertEqual(color_bound(table), colors)

    def test_the_smallest_and_the_greatest(self):
        for rows, expected in (([[0]], [3, 1]), (cyclic_rows(16), [48, 16]), (lowest_rows(16), [78, 16]),
                               (left_zero_rows(16), [48, 1]), (right_zero_rows(16), [48, 16]),
                               (nilpotent_rows(16), [33, 16])):
            table = ProductTable(rows)
            self.assertEqual([height_bound(table), color_bound(table)], expected)

    def test_opposite_tables(self):
        for table in TABLES:
            self.assertEqual(height_bound(opposite(table)), height_bound(table))
        # The number of colors depends on the side: it counts right-equivalent elements.
        wide = ProductTable(pair_rows(left_zero_rows(2), right_zero_rows(5)))
        self.assertEqual([color_bound(wide), color_bound(opposite(wide))], [5, 2])
        pairs = ProductTable(matrix_rows(3, 5, [[1, 0, 1], [0, 1, 0], [1, 1, 1], [0, 0, 1], [1, 0, 0]]))
        self.assertEqual([color_bound(pairs), color_bound(opposite(pairs))], [6, 4])

    def test_renumbered_tables(self):
        draw = random.Random(12)
        for table in TABLES:
            order = list(range(len(table)))
            draw.shuffle(order)
            new = table.renumbered(order)
            self.assertEqual([height_bound(new), color_bound(new)], [height_bound(table), color_bound(table)])

    def test_by_name(self):
        self.assertEqual([height_bound(table=low), color_bound(table=low)], [8, 2])


class ArgumentsTest(unittest.TestCase, RaiseCheck):
    def test_values_that_are_no_table(self):
        for wrong in values_that_are_no_table():
            with self.subTest(wrong=wrong):
                for function in ONLY_TABLE:
                    self.assert_raises_with(InvalidTable, "value", wrong, function, wrong)
                for element in (0, -1, None, "0"):
                    for function in ONE_ELEMENT:
                        self.assert_raises_with(InvalidTable, "value", wrong, function, wrong, element)
                        self.assert_raises_with(InvalidTable, "value", wrong, function, element=element, table=wrong)
                    for function in TWO_ELEMENTS:
                        self.assert_raises_with(InvalidTable, "value", wrong, function, wrong, element, [])

    def test_values_that_are_no_element(self):
        for table in (ProductTable([[0]]), low, ProductTable(nilpotent_rows(16))):
            for wrong in values_that_are_no_element(len(table)):
                with self.subTest(size=len(table), wrong=wrong):
                    for function in ONE_ELEMENT:
                        self.assert_raises_with(InvalidElement, "value", wrong, function, table, wrong)
                    for function in TWO_ELEMENTS:
                        self.assert_raises_with(InvalidElement, "value", wrong, function, table, wrong, 0)
                        self.assert_raises_with(InvalidElement, "value", wrong, function, table, 0, wrong)
                        self.assert_raises_with(InvalidElement, "value", wrong, function, table, wrong, [17])

    def test_the_first_of_two_wrong_elements_by_name(self):
        first, second = [1], [2]
        self.assert_raises_with(InvalidElement, "value", first, find_factors, goal=second, start=first, table=low)
        self.assert_raises_with(InvalidElement, "value", first, is_above, second=second, first=first, table=low)

    def test_a_wrong_element_before_its_group(self):
        # No element from 0 to 15 of this table but the last one is in a group cell.
        table = ProductTable(nilpotent_rows(16))
        self.assertEqual(self.raised(NotInGroup, inverse, table, 14).element, 14)
        self.assertEqual(self.raised(InvalidElement, inverse, table, 16).value, 16)

    def test_new_lists_with_each_call(self):
        reads = [lambda: right_class(switch, 2), lambda: left_class(switch, 2), lambda: cell_of(switch, 2),
                 lambda: levels(switch), lambda: levels(switch)[0], lambda: group_cells(switch),
                 lambda: group_cells(switch)[1][1]]
        for read in reads:
            first = read()
            kept = list(first)
            first.append(7)
            self.assertEqual(read(), kept)

    def test_tables_do_not_change(self):
        table = ProductTable(SWITCH)
        for function in ONLY_TABLE:
            function(table)
        for function in ONE_ELEMENT:
            function(table, 2)
        for function in TWO_ELEMENTS:
            function(table, 2, 0)
        self.assertEqual(table.rows(), SWITCH)
