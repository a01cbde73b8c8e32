"""Promises [21] to [26]: product tables."""

import copy
import itertools
import unittest

from producttrees.errors import (InvalidElement, InvalidInteger, InvalidOrder, InvalidSequence, InvalidTable,
                                 NotAssociative)
from producttrees.tables import ProductTable
from tests.helpers import (LEFT_ZERO, LOW, NULL, PARITY, SWITCH, RaiseCheck, all_small_tables, cyclic_rows,
                           left_zero_rows, lowest_rows, right_zero_rows, values_that_are_no_element,
                           values_that_are_no_integer)

parity = ProductTable(PARITY)
low = ProductTable(LOW)
switch = ProductTable(SWITCH)


def product_of(table, factors):
    """Return the product of one or more elements, multiplied from the left."""
    result = factors[0]
    for factor in factors[1:]:
        result = table.rows()[result][factor]
    return result


class CreationTest(unittest.TestCase, RaiseCheck):
    def test_example(self):
        error = self.raised(NotAssociative, ProductTable, [[0, 0], [1, 0]])
        self.assertEqual(error.triple, (1, 0, 1))

    def test_sizes(self):
        for size in range(1, 17):
            for make in (cyclic_rows, lowest_rows, left_zero_rows, right_zero_rows):
                with self.subTest(size=size, make=make.__name__):
                    table = ProductTable(make(size))
                    self.assertEqual(table.rows(), make(size))
                    self.assertEqual(len(table), size)

    def test_seventeen_and_more_rows(self):
        for size in (17, 18, 26, 110):
            rows = cyclic_rows(size)
            self.assert_raises_with(InvalidTable, "value", rows, ProductTable, rows)

    def test_rows_as_lists_and_as_tuples(self):
        forms = [SWITCH, tuple(SWITCH), [tuple(row) for row in SWITCH], tuple(tuple(row) for row in SWITCH),
                 [SWITCH[0], tuple(SWITCH[1]), SWITCH[2]]]
        for rows in forms:
            with self.subTest(rows=rows):
                table = ProductTable(rows)
                self.assertEqual(table, switch)
                self.assertEqual(table.rows(), SWITCH)
                self.assertEqual([type(row) for row in table.rows()], [list, list, list])
        self.assertEqual(ProductTable(rows=LOW), low)

    def test_rows_that_are_no_square_list(self):
        for rows in (None, True, 0, 1, "", "0", "01", {}, {0: [0]}, [], (), [[]], [()], [0], (0,), [[0], [0]], [[0, 0]],
                     [[0, 0], [0]], [[0], [0, 0]], [[0, 0], [0, 0], [0, 0]], [[0, 0, 0], [0, 0, 0]], [[0], 0],
                     ["0"], [{0: 0}], [None], [[[0]]], [[0, 0], "00"], [[0, 0], {0: 0, 1: 0}], [[0, 0], None],
                     [[0, 0], [0, 0], []], low, [low], [low, low]):
            with self.subTest(rows=rows):
                self.assert_raises_with(InvalidTable, "value", rows, ProductTable, rows)

    def test_items_that_are_no_element(self):
        for size in (1, 2, 3, 16):
            for wrong in values_that_are_no_element(size) + [17]:
                for place in sorted({(0, 0), (0, size - 1), (size - 1, 0), (size - 1, size - 1)}):
                    rows = left_zero_rows(size)
                    rows[place[0]][place[1]] = wrong
                    with self.subTest(size=size, wrong=wrong, place=place):
                        self.assert_raises_with(InvalidTable, "value", rows, ProductTable, rows)

    def test_true_and_false_are_no_item(self):
        for rows in ([[False]], [[0, 0], [0, True]], [[False, 0], [0, 1]], ((0, True), (1, 0))):
            self.assert_raises_with(InvalidTable, "value", rows, ProductTable, rows)

    def test_rows_of_a_wrong_form_before_triples(self):
        rows = [[0, 0], [1, 2]]
        self.assert_raises_with(InvalidTable, "value", rows, ProductTable, rows)
        rows = [[1, 0], [0, 0], [0]]
        self.assert_raises_with(InvalidTable, "value", rows, ProductTable, rows)

    def test_first_triple_of_all_small_rows(self):
        associative = 0
        for code in itertools.product(range(3), repeat=9):
            rows = [code[0:3], code[3:6], code[6:9]]
            wrong = [t for t in itertools.product(range(3), repeat=3)
                     if rows[rows[t[0]][t[1]]][t[2]] != rows[t[0]][rows[t[1]][t[2]]]]
            if wrong:
                error = self.raised(NotAssociative, ProductTable, rows)
                self.assertEqual(error.triple, wrong[0])
                self.assertIs(type(error.triple), tuple)
            else:
                associative += 1
                self.assertEqual(ProductTable(rows).rows(), [list(row) for row in rows])
        self.assertEqual(associative, 113)

    def test_first_triple_of_sixteen_rows(self):
        rows = cyclic_rows(16)
        rows[15][15] = 15
        error = self.raised(NotAssociative, ProductTable, rows)
        wrong = [t for t in itertools.product(range(16), repeat=3)
                 if rows[rows[t[0]][t[1]]][t[2]] != rows[t[0]][rows[t[1]][t[2]]]]
        self.assertEqual(error.triple, wrong[0])

    def test_only_the_last_triple_fails(self):
        # Every product is 0 except 1*1 = 2 and 2*2 = 1: only triples of large elements can fail.
        rows = [[0, 0, 0], [0, 2, 0], [0, 0, 1]]
        self.assertEqual(self.raised(NotAssociative, ProductTable, rows).triple, (1, 1, 2))

    def test_passed_rows_are_not_changed(self):
        for rows in ([[0, 0], [0, 1]], [(0, 1), (1, 0)], [[0, 0], [1, 0]], [[0, 1], [1, 2]]):
            kept = copy.deepcopy(rows)
            try:
                ProductTable(rows)
            except (InvalidTable, NotAssociative):
                pass
            self.assertEqual(rows, kept)


class RowsTest(unittest.TestCase, RaiseCheck):
    def test_example(self):
        results = [len(low), low.product(1, 0), parity.product(1, 1), ProductTable(low.rows()) == low]
        self.assertEqual(results, [2, 0, 0, True])

    def test_products(self):
        for table in all_small_tables():
            rows = table.rows()
            for a in range(len(table)):
                for b in range(len(table)):
                    self.assertEqual(table.product(a, b), rows[a][b])
                    self.assertEqual(table.product(second=b, first=a), rows[a][b])

    def test_wrong_elements_of_a_product(self):
        for table in (parity, switch, ProductTable([[0]]), ProductTable(cyclic_rows(16))):
            for wrong in values_that_are_no_element(len(table)):
                with self.subTest(size=len(table), wrong=wrong):
                    self.assert_raises_with(InvalidElement, "value", wrong, table.product, wrong, 0)
                    self.assert_raises_with(InvalidElement, "value", wrong, table.product, 0, wrong)
                    self.assert_raises_with(InvalidElement, "value", wrong, table.product, wrong, ["second"])
                    self.assert_raises_with(InvalidElement, "value", wrong, table.product, second=-1, first=wrong)

    def test_equality(self):
        tables = [ProductTable(rows) for rows in
                  ([[0]], PARITY, LOW, NULL, LEFT_ZERO, [[0, 1], [0, 1]], [[0, 1], [1, 1]], SWITCH, cyclic_rows(3))]
        for i, first in enumerate(tables):
            for j, second in enumerate(tables):
                self.assertIs(first == ProductTable(second.rows()), i == j)
                self.assertIs(first != second, i != j)

    def test_no_other_value_is_equal(self):
        for other in (LOW, tuple(tuple(row) for row in LOW), None, 2, "low", {}, InvalidTable(1), [low]):
            with self.subTest(other=other):
                self.assertIs(low == other, False)
                self.assertIs(low != other, True)
                self.assertIs(other == low, False)

    def test_later_changes_change_no_table(self):
        rows = [[0, 0], [0, 1]]
        table = ProductTable(rows)
        rows[1][1] = 0
        rows[0] = [1, 1]
        rows.append([0, 0])
        self.assertEqual(table, low)
        returned = table.rows()
        returned[1][1] = 0
        returned.pop()
        self.assertEqual(table.rows(), LOW)
        self.assertEqual([len(table), table.product(1, 1), table.idempotents()], [2, 1, [0, 1]])
        self.assertEqual(table, low)

    def test_new_lists_with_each_call(self):
        first, second = switch.rows(), switch.rows()
        self.assertIsNot(first, second)
        for one, other in zip(first, second):
            self.assertIsNot(one, other)

    def test_repr_is_a_string(self):
        self.assertIsInstance(repr(low), str)


class PowerTest(unittest.TestCase, RaiseCheck):
    def test_example(self):
        self.assertEqual([parity.power(1, 100000000000000000001), low.power(0, 3)], [1, 0])

    def test_small_counts(self):
        for table in all_small_tables():
            for element in range(len(table)):
                for count in range(1, 40):
                    self.assertEqual(table.power(element, count), product_of(table, [element] * count))

    def test_powers_before_the_cycle(self):
        # The powers of 0 in this table are 0, 1, 2 and then 3, 4, 3, 4 ..
        numbers = list(range(5))
        rows = [[a + b + 1 if a + b + 1 < 5 else 3 + (a + b) % 2 for b in numbers] for a in numbers]
        table = ProductTable(rows)
        self.assertEqual([table.power(0, count) for count in range(1, 10)], [0, 1, 2, 3, 4, 3, 4, 3, 4])
        self.assertEqual([table.power(0, 10 ** 29), table.power(0, 10 ** 29 + 1)], [3, 4])

    def test_counts_up_to_thirty_digits(self):
        for size in (1, 2, 3, 7, 11, 16):
            table = ProductTable(cyclic_rows(size))
            for digits in range(1, 31):
                for count in (10 ** (digits - 1), 10 ** digits - 1, 7 * 10 ** (digits - 1) + 3):
                    for element in range(size):
                        self.assertEqual(table.power(element, count), element * count % size)

    def test_by_name(self):
        self.assertEqual(parity.power(count=2, element=1), 0)

    def test_wrong_elements_and_counts(self):
        for wrong in values_that_are_no_element(2):
            with self.subTest(wrong=wrong):
                self.assert_raises_with(InvalidElement, "value", wrong, parity.power, wrong, 1)
        for wrong in values_that_are_no_integer() + [0, -1, -2, -10 ** 29]:
            with self.subTest(wrong=wrong):
                self.assert_raises_with(InvalidInteger, "value", wrong, parity.power, 1, wrong)

    def test_both_wrong(self):
        for wrong in values_that_are_no_element(2):
            for count in (0, None, True, "2"):
                self.assert_raises_with(InvalidElement, "value", wrong, parity.power, wrong, count)
                self.assert_raises_with(InvalidElement, "value", wrong, parity.power, count=count, element=wrong)


class IdentityTest(unittest.TestCase):
    def test_example(self):
        results = [low.idempotents(), low.identity(), ProductTable([[0, 0], [0, 0]]).identity()]
        self.assertEqual(results, [[0, 1], 1, None])

    def test_idempotents(self):
        self.assertEqual(parity.idempotents(), [0])
        self.assertEqual(switch.idempotents(), [0, 1])
        self.assertEqual(ProductTable(NULL).idempotents(), [0])
        self.assertEqual(ProductTable(cyclic_rows(16)).idempotents(), [0])
        self.assertEqual(ProductTable(lowest_rows(16)).idempotents(), list(range(16)))
        for table in all_small_tables():
            expected = [a for a in range(len(table)) if table.rows()[a][a] == a]
            self.assertEqual(table.idempotents(), expected)

    def test_identities(self):
        self.assertEqual(ProductTable([[0]]).identity(), 0)
        self.assertEqual(parity.identity(), 0)
        self.assertEqual(switch.identity(), 1)
        self.assertEqual(ProductTable(cyclic_rows(16)).identity(), 0)
        self.assertEqual(ProductTable(lowest_rows(16)).identity(), 15)

    def test_tables_without_an_identity(self):
        # Elements that are neutral on one side only are no identity.
        for size in range(2, 17):
            self.assertIsNone(ProductTable(left_zero_rows(size)).identity())
            self.assertIsNone(ProductTable(right_zero_rows(size)).identity())

    def test_identity_by_its_definition(self):
        for table in all_small_tables():
            rows, numbers = table.rows(), range(len(table))
            found = [e for e in numbers if all(rows[e][a] == a == rows[a][e] for a in numbers)]
            self.assertEqual([table.identity()], found or [None])

    def test_new_list_with_each_call(self):
        low.idempotents().append(7)
        self.assertEqual(low.idempotents(), [0, 1])


class GeneratedTest(unittest.TestCase, RaiseCheck):
    def test_example(self):
        part, originals = switch.subtable([2])
        self.assertEqual([part.rows(), originals], [[[0, 1], [1, 0]], [1, 2]])

    def test_generated(self):
        self.assertEqual(switch.generated([2]), [1, 2])
        self.assertEqual(switch.generated([1]), [1])
        self.assertEqual(switch.generated([2, 0]), [0, 1, 2])
        self.assertEqual(ProductTable(NULL).generated([1]), [0, 1])
        self.assertEqual(ProductTable(cyclic_rows(12)).generated([4]), [0, 4, 8])
        self.assertEqual(ProductTable(cyclic_rows(12)).generated([8, 6]), [0, 2, 4, 6, 8, 10])
        self.assertEqual(ProductTable(cyclic_rows(16)).generated([3]), list(range(16)))
        self.assertEqual(ProductTable(left_zero_rows(16)).generated([9, 4]), [4, 9])
        self.assertEqual(switch.generated(generators=[2]), [1, 2])

    def test_generated_by_its_definition(self):
        for table in all_small_tables()[:-4] + [ProductTable(cyclic_rows(6))]:
            size = len(table)
            for count in range(1, min(size, 3) + 1):
                for generators in itertools.combinations(range(size), count):
                    # Each round doubles the greatest number of factors; so many rounds reach every product.
                    expected = set(generators)
                    for _ in range(size):
                        expected |= {table.rows()[a][b] for a in expected for b in expected}
                    self.assertEqual(table.generated(list(generators)), sorted(expected))

    def test_products_of_several_generators_in_every_order(self):
        # In the maps of three states, neither the cycle nor the swap alone gives the others.
        maps = list(itertools.permutations(range(3)))
        table = ProductTable([[maps.index(tuple(b[k] for k in a)) for b in maps] for a in maps])
        cycle, swap = maps.index((1, 2, 0)), maps.index((1, 0, 2))
        self.assertEqual(len(table.generated([cycle])), 3)
        self.assertEqual(len(table.generated([swap])), 2)
        self.assertEqual(table.generated([swap, cycle]), list(range(6)))

    def test_repeated_and_unsorted_generators(self):
        self.assertEqual(switch.generated([2, 2, 2]), [1, 2])
        self.assertEqual(switch.generated([2, 0, 2, 1, 0]), [0, 1, 2])
        self.assertEqual(ProductTable(lowest_rows(16)).generated([9, 4, 9, 12]), [4, 9, 12])
        part, originals = switch.subtable([2, 1, 2])
        self.assertEqual([part.rows(), originals], [PARITY, [1, 2]])

    def test_tuples(self):
        self.assertEqual(switch.generated((2,)), [1, 2])
        self.assertEqual(switch.subtable((2, 2))[1], [1, 2])

    def test_two_thousand_generators(self):
        generators = [2, 1] * 1000
        self.assertEqual(switch.generated(generators), [1, 2])
        self.assertEqual(switch.subtable(generators)[1], [1, 2])
        generators.append(1)
        self.assert_raises_with(InvalidSequence, "value", generators, switch.generated, generators)
        self.assert_raises_with(InvalidSequence, "value", generators, switch.subtable, generators)

    def test_generators_that_are_no_sequence(self):
        lists = [[wrong] for wrong in values_that_are_no_element(3)] + [[0, 1, wrong] for wrong in (3, -1, True, None)]
        for generators in lists + [[], (), None, 0, 2, True, "", "12", {}, {0: 1}, [[0]], ([1, 2],), switch]:
            with self.subTest(generators=generators):
                self.assert_raises_with(InvalidSequence, "value", generators, switch.generated, generators)
                self.assert_raises_with(InvalidSequence, "value", generators, switch.subtable, generators)

    def test_subtables(self):
        for table in all_small_tables():
            size = len(table)
            for generators in ([0], [size - 1], [size // 2, size - 1], list(range(size))):
                result = table.subtable(generators)
                self.assertIs(type(result), tuple)
                part, originals = result
                self.assertIs(type(part), ProductTable)
                self.assertEqual(originals, table.generated(generators))
                self.assertEqual(len(part), len(originals))
                for i, a in enumerate(originals):
                    for j, b in enumerate(originals):
                        self.assertEqual(originals[part.product(i, j)], table.product(a, b))

    def test_the_whole_table_as_a_subtable(self):
        for table in all_small_tables():
            everything = list(range(len(table)))
            self.assertEqual(table.subtable(everything[::-1]), (table, everything))

    def test_nothing_passed_or_returned_stays_connected(self):
        generators = [2, 2]
        part, originals = switch.subtable(generators)
        self.assertEqual(generators, [2, 2])
        originals.append(0)
        switch.generated(generators).append(0)
        self.assertEqual(switch.generated(generators), [1, 2])
        self.assertEqual(switch.subtable(generators), (part, [1, 2]))
        full = [0, 1, 2]
        self.assertIsNot(switch.generated(full), full)
        self.assertIsNot(switch.subtable(full)[1], full)
        self.assertEqual(switch.rows(), SWITCH)


class RenumberedTest(unittest.TestCase, RaiseCheck):
    def test_example(self):
        self.assertEqual(low.renumbered([1, 0]).rows(), [[0, 1], [1, 1]])

    def test_every_order(self):
        tables = [table for table in all_small_tables() if len(table) <= 4]
        for table in tables:
            for order in itertools.permutations(range(len(table))):
                result = table.renumbered(list(order))
                self.assertIs(type(result), ProductTable)
                self.assertEqual(table.renumbered(order), result)
                for i, a in enumerate(order):
                    for j, b in enumerate(order):
                        self.assertEqual(order[result.product(i, j)], table.product(a, b))

    def test_an_order_that_is_not_its_own_reverse(self):
        table = ProductTable(cyclic_rows(3)).renumbered(order=[1, 2, 0])
        self.assertEqual(table.identity(), 2)
        self.assertEqual(table.rows(), [[1, 2, 0], [2, 0, 1], [0, 1, 2]])
        backwards = list(range(15, -1, -1))
        self.assertEqual(ProductTable(left_zero_rows(16)).renumbered(backwards).rows(), left_zero_rows(16))

    def test_the_usual_order(self):
        for table in all_small_tables():
            self.assertEqual(table.renumbered(list(range(len(table)))), table)

    def test_orders_that_lack_or_repeat_an_element(self):
        for order in ([0, 1], [0, 1, 1], [0, 0, 0], [2, 2, 1], [0, 1, 2, 2], [0, 1, 2, 0], [1, 2], [0], [], ()):
            with self.subTest(order=order):
                self.assert_raises_with(InvalidOrder, "value", order, switch.renumbered, order)

    def test_orders_with_items_that_are_no_element(self):
        lists = [[0, 1, wrong] for wrong in values_that_are_no_element(3)] + [[True, 0, 2], [1, False, 2], [0, 1, 2, 3]]
        for order in lists + [None, 0, 3, True, "012", {}, {0: 0, 1: 1, 2: 2}, [[0, 1, 2]], switch]:
            with self.subTest(order=order):
                self.assert_raises_with(InvalidOrder, "value", order, switch.renumbered, order)

    def test_long_orders(self):
        order = list(range(16)) * 100
        self.assert_raises_with(InvalidOrder, "value", order, ProductTable(cyclic_rows(16)).renumbered, order)

    def test_nothing_passed_stays_connected(self):
        order = [2, 0, 1]
        table = switch.renumbered(order)
        rows = table.rows()
        self.assertEqual(order, [2, 0, 1])
        order.reverse()
        self.assertEqual(table.rows(), rows)
        self.assertEqual(switch.rows(), SWITCH)
