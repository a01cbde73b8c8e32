"""Promises [51] to [56]: products of ranges, and product trees."""

import copy
import itertools
import random
import unittest

from producttrees.errors import InvalidRange, InvalidSequence, InvalidTable, InvalidTree, TooMany
from producttrees.tables import ProductTable
from producttrees.trees import (evaluate, first_tree_error, is_tree, join_trees, tree_height, tree_leaves,
                                tree_products, tree_spans)
from tests.helpers import (LEFT_ZERO, LOW, PARITY, SWITCH, RaiseCheck, alternating, cyclic_rows, drawn_sequence,
                           drawn_tree, folded, left_deep, left_zero_rows, lowest_rows, nilpotent_rows, reordered,
                           reversed_wide, right_deep, single_chain, symmetric_rows, values_that_are_no_integer,
                           values_that_are_no_sequence, values_that_are_no_table, values_that_are_no_tree,
                           various_tables, wide)

parity = ProductTable(PARITY)
low = ProductTable(LOW)
switch = ProductTable(SWITCH)
left_zero = ProductTable(LEFT_ZERO)
circle = ProductTable(cyclic_rows(16))

TREE = [1, 0, (0, 1), 1, (2, 3)]


def described(tree, index):
    """Return the leaves and the height of a node, by recursion."""
    if isinstance(tree[index], int):
        return [tree[index]], 0
    children = [described(tree, child) for child in tree[index]]
    return [leaf for leaves, _ in children for leaf in leaves], 1 + max([height for _, height in children], default=0)


def spans_of(tree, index, start, found):
    """Fill in the span of the node, which starts at this place, and those of all below it; return where it stops."""
    stop = start
    if isinstance(tree[index], int):
        stop = start + 1
    else:
        for child in tree[index]:
            stop = spans_of(tree, child, stop, found)
    found[index] = (start, stop)
    return stop


class EvaluateTest(unittest.TestCase, RaiseCheck):
    def test_example(self):
        self.assertEqual([evaluate(parity, [1, 1, 1, 0]), evaluate(low, [1, 1, 0, 1], 0, 2)], [1, 1])

    def test_all_ranges(self):
        draw = random.Random(21)
        for table in various_tables()[::3]:
            for length in (1, 2, 7):
                sequence = [draw.randrange(len(table)) for _ in range(length)]
                self.assertEqual(evaluate(table, sequence), folded(table, sequence))
                for start in range(length):
                    self.assertEqual(evaluate(table, sequence, start), folded(table, sequence[start:]))
                    self.assertEqual(evaluate(table, sequence, start, None), folded(table, sequence[start:]))
                    for stop in range(start + 1, length + 1):
                        expected = folded(table, sequence[start:stop])
                        self.assertEqual(evaluate(table, sequence, start, stop), expected)
                        made = evaluate(stop=stop, start=start, sequence=tuple(sequence), table=table)
                        self.assertEqual(made, expected)

    def test_the_order_of_the_factors(self):
        swaps = ProductTable(symmetric_rows())
        self.assertEqual([evaluate(swaps, [1, 2]), evaluate(swaps, [2, 1])], [3, 4])
        self.assertEqual([evaluate(left_zero, [1, 0, 0]), evaluate(left_zero, [0, 1, 1])], [1, 0])

    def test_only_the_stop_by_name(self):
        self.assertEqual(evaluate(low, [1, 1, 0, 1], stop=2), 1)
        self.assertEqual(evaluate(low, [1, 1, 0, 1], stop=3), 0)
        self.assertEqual(evaluate(low, [1, 0, 1, 1], start=2), 1)

    def test_two_thousand_elements(self):
        sequence = [1] * 1999 + [0]
        self.assertEqual([evaluate(parity, sequence), evaluate(parity, sequence, 1999, 2000)], [1, 0])
        self.assertEqual(evaluate(circle, [1] * 2000), 0)

    def test_wrong_bounds(self):
        bounds = [(0, 0), (3, 3), (4, 4), (2, 1), (4, 0), (4, None), (5, None), (5, 6), (-1, 2), (-1, None), (0, -1),
                  (-2, -1), (0, 5), (3, 5), (0, 10 ** 29), (-10 ** 29, 1), (True, 2), (False, 2), (0, True), (0, False),
                  (None, 2), (None, None), ("0", 2), (0, "2"), ([0], 2), (0, [2]), (0, (2,)), ({}, 1), (0, {}),
                  (low, 1), (True, None), ("m", None)]
        for start, stop in bounds:
            with self.subTest(start=start, stop=stop):
                error = self.raised(InvalidRange, evaluate, low, [1, 1, 0, 1], start, stop)
                self.assertIs(type(error.bounds), tuple)
                self.assertEqual(len(error.bounds), 2)
                self.assertIs(error.bounds[0], start)
                self.assertIs(error.bounds[1], stop)
                error = self.raised(InvalidRange, evaluate, low, [1, 1, 0, 1], stop=stop, start=start)
                self.assertEqual(error.bounds, (start, stop))

    def test_bounds_that_are_left_out_stand_as_passed(self):
        self.assertEqual(self.raised(InvalidRange, evaluate, low, [1, 1], 2).bounds, (2, None))
        self.assertEqual(self.raised(InvalidRange, evaluate, low, [1, 1], stop=3).bounds, (0, 3))

    def test_wrong_tables_and_sequences(self):
        for wrong in values_that_are_no_table():
            self.assert_raises_with(InvalidTable, "value", wrong, evaluate, wrong, [0])
            self.assert_raises_with(InvalidTable, "value", wrong, evaluate, wrong, [], -1, True)
        for table in (low, circle):
            for wrong in values_that_are_no_sequence(len(table)):
                with self.subTest(wrong=wrong):
                    self.assert_raises_with(InvalidSequence, "value", wrong, evaluate, table, wrong)
                    self.assert_raises_with(InvalidSequence, "value", wrong, evaluate, table, wrong, 1, 0)


class IsTreeTest(unittest.TestCase):
    def test_example(self):
        results = [is_tree([1, 0, 1, (0, 1, 2)]), is_tree([1, (0,), (0,)]), is_tree([(0, 1), 1, 1])]
        self.assertEqual(results, [True, False, False])

    def test_trees(self):
        trees = [[0], [15], [()], [0, (0,)], [(), (0,)], [(), (), (0, 1)], [0, 1, (1, 0)], [0, (), (1, 0)], TREE,
                 [0, (0,), (1,), (2,)], [0, 1, 2, 3, (3, 1), (0, 4, 2)], [0, 1, (0,), (1,), (3, 2)], wide(range(16)),
                 [3, (0,), 4, (1, 2)]]
        for tree in trees:
            with self.subTest(tree=tree):
                self.assertIs(is_tree(tree), True)
                self.assertIs(is_tree(tuple(tree)), True)
                self.assertIs(is_tree(value=tree), True)

    def test_values_that_are_no_tree(self):
        for value in values_that_are_no_tree():
            with self.subTest(value=value):
                self.assertIs(is_tree(value), False)
                if isinstance(value, list):
                    self.assertIs(is_tree(tuple(value)), False)

    def test_a_tuple_of_nodes_is_no_node(self):
        # As a tree, a tuple is a list of nodes: a tree of one leaf, and a leaf with a node above it.
        self.assertEqual([is_tree((0,)), is_tree((0, (0,)))], [True, True])
        self.assertEqual([is_tree((0, [0])), is_tree((1, 0))], [False, False])

    def test_every_list_of_three_small_nodes(self):
        nodes = [0, 1, (), (0,), (1,), (0, 1), (1, 0), (0, 0), (2,), (0, 1, 2)]
        for value in itertools.product(nodes, repeat=3):
            children = [(child, index) for index, node in enumerate(value) if isinstance(node, tuple) for child in node]
            expected = all(child < index for child, index in children) and sorted(c for c, _ in children) == [0, 1]
            self.assertIs(is_tree(list(value)), expected)

    def test_numbers_of_nodes(self):
        for make in (single_chain, lambda count: wide([1] * (count - 1)), lambda count: wide([()] * (count - 1))):
            for count, expected in ((1999, True), (4099, True), (4100, True), (4101, False), (4110, False)):
                self.assertIs(is_tree(make(count)), expected)
                self.assertIs(is_tree(tuple(make(count))), expected)

    def test_a_child_too_many_or_too_few_among_thousands(self):
        tree = wide([1] * 4099)
        for children in (tuple(range(4098)), tuple(range(4099)) + (0,), tuple(range(4099)) + (4098,),
                         tuple(range(1, 4100)), tuple(range(4098)) + (4097,)):
            self.assertIs(is_tree(tree[:-1] + [children]), False)

    def test_deep_trees(self):
        for make in (left_deep, right_deep):
            self.assertIs(is_tree(make([1] * 2000)), True)
            self.assertIs(is_tree(make([1] * 1999 + [16])), False)

    def test_values_of_every_kind_below_the_list(self):
        value = (0, [1, {"a": (2, [3])}])
        for wrong in ([value], [0, value], [0, (value,)], value, {"tree": TREE}, [TREE], [[0]], ([0],), [{}, (0,)]):
            self.assertIs(is_tree(wrong), False)


class MeasuresTest(unittest.TestCase, RaiseCheck):
    def test_example(self):
        self.assertEqual([tree_leaves(TREE), tree_height(TREE), tree_spans(TREE)],
                         [[1, 0, 1], 2, [(0, 1), (1, 2), (0, 2), (2, 3), (0, 3)]])

    def test_single_nodes(self):
        self.assertEqual([tree_leaves([7]), tree_height([7]), tree_spans([7])], [[7], 0, [(0, 1)]])
        self.assertEqual([tree_leaves([()]), tree_height([()]), tree_spans([()])], [[], 1, [(0, 0)]])
        self.assertEqual([tree_leaves((7,)), tree_height((7,)), tree_spans((7,))], [[7], 0, [(0, 1)]])

    def test_nodes_without_children_or_with_one(self):
        tree = [(), 4, 5, (), (1, 0), (3, 2), (), (4, 6, 5)]
        self.assertEqual(tree_leaves(tree), [4, 5])
        self.assertEqual(tree_height(tree), 3)
        self.assertEqual(tree_spans(tree), [(1, 1), (0, 1), (1, 2), (1, 1), (0, 1), (1, 2), (1, 1), (0, 2)])
        self.assertEqual([tree_height([(), (0,)]), tree_height([3, (0,)]), tree_height([3, (0,), (1,)])], [2, 1, 2])
        self.assertEqual(tree_spans([(), (0,)]), [(0, 0), (0, 0)])

    def test_the_list_in_another_order_than_the_leaves(self):
        tree = [5, 6, 7, 8, (3, 1), (2, 4, 0)]
        self.assertEqual(tree_leaves(tree), [7, 8, 6, 5])
        self.assertEqual(tree_spans(tree), [(3, 4), (2, 3), (0, 1), (1, 2), (1, 3), (0, 4)])
        self.assertEqual(tree_height(tree), 2)
        self.assertEqual(tree_leaves(reversed_wide([1, 2, 3])), [1, 2, 3])

    def test_drawn_trees(self):
        draw = random.Random(22)
        for size in list(range(1, 40)) * 4:
            tree = drawn_tree(draw, size, 15)
            leaves, height = described(tree, len(tree) - 1)
            spans = [None] * len(tree)
            spans_of(tree, len(tree) - 1, 0, spans)
            for form in (tree, tuple(tree)):
                self.assertIs(is_tree(form), True)
                self.assertEqual([tree_leaves(form), tree_height(form), tree_spans(form)], [leaves, height, spans])
            for index, (start, stop) in enumerate(spans):
                self.assertEqual(leaves[start:stop], described(tree, index)[0])

    def test_kinds_of_results(self):
        for tree in (TREE, tuple(TREE)):
            self.assertIs(type(tree_leaves(tree)), list)
            self.assertIs(type(tree_spans(tree)), list)
            self.assertEqual({type(span) for span in tree_spans(tree)}, {tuple})
            self.assertIs(type(tree_height(tree=tree)), int)
        self.assertEqual([tree_leaves(tree=[3]), tree_spans(tree=[3])], [[3], [(0, 1)]])

    def test_deep_trees(self):
        leaves = [place % 16 for place in range(2000)]
        for make in (left_deep, right_deep):
            tree = make(leaves)
            self.assertEqual([tree_leaves(tree), tree_height(tree)], [leaves, 1999])
        self.assertEqual(tree_spans(left_deep(leaves))[-1], (0, 2000))
        self.assertEqual(tree_spans(left_deep(leaves))[2::2], [(0, stop) for stop in range(2, 2001)])
        self.assertEqual(tree_spans(right_deep(leaves))[2::2], [(start, 2000) for start in range(1998, -1, -1)])
        chain = single_chain(4100)
        self.assertEqual([tree_leaves(chain), tree_height(chain)], [[1], 4099])
        self.assertEqual(tree_spans(chain), [(0, 1)] * 4100)

    def test_wide_trees(self):
        leaves = [place % 16 for place in range(4099)]
        for tree in (wide(leaves), reversed_wide(leaves)):
            self.assertEqual([tree_leaves(tree), tree_height(tree)], [leaves, 1])
        self.assertEqual(tree_spans(wide(leaves)), [(k, k + 1) for k in range(4099)] + [(0, 4099)])
        empty = wide([()] * 4099)
        self.assertEqual([tree_leaves(empty), tree_height(empty), set(tree_spans(empty))], [[], 2, {(0, 0)}])

    def test_values_that_are_no_tree(self):
        for value in values_that_are_no_tree() + [wide([1] * 4100), single_chain(4101)]:
            with self.subTest(value=value):
                for function in (tree_leaves, tree_height, tree_spans):
                    self.assert_raises_with(InvalidTree, "value", value, function, value)

    def test_new_lists_and_no_changes(self):
        tree = list(TREE)
        for function in (tree_leaves, tree_spans):
            function(tree).append(9)
            self.assertEqual(tree, TREE)
            self.assertIsNot(function(tree), function(tree))
            self.assertEqual(function(tree), function(TREE))
        leaf = [3]
        self.assertIsNot(tree_leaves(leaf), leaf)


class ProductsTest(unittest.TestCase, RaiseCheck):
    def test_example(self):
        self.assertEqual(tree_products(parity, [1, 0, (0, 1), 1, (2, 3)]), [1, 0, 1, 1, 0])

    def test_nodes_without_leaves(self):
        self.assertEqual(tree_products(low, [()]), [None])
        self.assertEqual(tree_products(low, [(), (0,)]), [None, None])
        self.assertEqual(tree_products(low, [(), 1, (), (0, 1, 2)]), [None, 1, None, 1])
        self.assertEqual(tree_products(low, [0, (), (1, 0)]), [0, None, 0])
        self.assertEqual(tree_products(tree=[1, (0,)], table=parity), [1, 1])

    def test_drawn_trees(self):
        draw = random.Random(23)
        for table in various_tables()[::4]:
            for size in (1, 2, 5, 20, 30):
                tree = drawn_tree(draw, size, len(table) - 1)
                expected = []
                for index in range(len(tree)):
                    leaves = described(tree, index)[0]
                    expected.append(folded(table, leaves) if leaves else None)
                self.assertEqual(tree_products(table, tree), expected)
                self.assertEqual(tree_products(table, tuple(tree)), expected)

    def test_deep_and_wide_trees(self):
        for make in (left_deep, right_deep, wide, reversed_wide):
            self.assertEqual(tree_products(circle, make([1] * 2000))[-1], 0)
            self.assertEqual(tree_products(left_zero, make([1] + [0] * 1999))[-1], 1)
        self.assertEqual(tree_products(low, single_chain(4100)), [1] * 4100)
        self.assertEqual(tree_products(low, wide([1] * 4099)), [1] * 4100)

    def test_leaves_that_are_no_element(self):
        for table in (low, switch, ProductTable([[0]])):
            size = len(table)
            for tree in ([size], [15], [size, (0,)], [0, size, (0, 1)], [0, 0, 15, (0, 1), (3, 2)],
                         wide([0] * 99 + [size])):
                for form in (tree, tuple(tree)):
                    self.assert_raises_with(InvalidTree, "value", form, tree_products, table, form)
        self.assertEqual(tree_products(circle, [15, (0,)]), [15, 15])

    def test_wrong_arguments(self):
        for wrong in values_that_are_no_table():
            for tree in (TREE, [], None, [99]):
                self.assert_raises_with(InvalidTable, "value", wrong, tree_products, wrong, tree)
        for value in values_that_are_no_tree():
            with self.subTest(value=value):
                self.assert_raises_with(InvalidTree, "value", value, tree_products, circle, value)

    def test_a_new_list(self):
        tree = [1]
        self.assertIsNot(tree_products(low, tree), tree)
        tree_products(low, tree).append(0)
        self.assertEqual(tree, [1])


class ErrorsTest(unittest.TestCase, RaiseCheck):
    def check(self, table, sequence, tree, expected):
        for form in (tree, tuple(tree)):
            self.assertEqual(first_tree_error(table, sequence, form), expected)
            self.assertEqual(first_tree_error(tree=form, sequence=tuple(sequence), table=table), expected)

    def test_example(self):
        self.check(parity, [1, 1, 1], [1, 1, 1, (0, 1, 2)], ("idempotent", 3))
        self.check(low, [1, 1, 1], [1, 1, 1, (0, 1, 2)], None)

    def test_valid_trees(self):
        self.check(low, [1], [1], None)
        self.check(low, [1, 0], [1, 0, (0, 1)], None)
        self.check(parity, [1, 0, 1], TREE, None)
        self.check(parity, [0, 0, 0], wide([0, 0, 0]), None)
        self.check(parity, [1, 1, 0, 1, 1], [1, 1, (0, 1), 0, 1, 1, (4, 5), (2, 3, 6)], None)
        self.check(low, [1, 0, 1], [1, 0, 1, (1, 2), (0, 3)], None)

    def test_lengths(self):
        self.check(low, [1], [1, 1, (0, 1)], ("length", 2))
        self.check(low, [1, 1], [1], ("length", 1))
        self.check(low, [1], [()], ("length", 0))
        self.check(low, [1, 1], [(), 1, (0, 1)], ("length", 1))
        # A wrong number of leaves comes before all other errors.
        self.check(low, [1, 1], [0, 5, 7, (0, 1, 2)], ("length", 3))
        self.check(low, [1] * 2000, [1], ("length", 1))
        self.check(low, [1] * 2000, wide([1] * 4099), ("length", 4099))

    def test_leaves(self):
        self.check(low, [1, 0], [0, 0, (0, 1)], ("leaf", 0))
        self.check(low, [1, 0], [1, 1, (0, 1)], ("leaf", 1))
        self.check(low, [1, 0], [1, 15, (0, 1)], ("leaf", 1))
        self.check(low, [1, 0], [2, 15, (0, 1)], ("leaf", 0))
        self.check(low, [1, 0], [1, 0, (1, 0)], ("leaf", 0))
        self.check(low, [1, 0], [1, (0,), 1, (1, 2)], ("leaf", 1))
        self.check(parity, [1, 1, 1], [1, 1, 0, (0, 1, 2)], ("leaf", 2))
        self.check(switch, [2], [3], ("leaf", 0))

    def test_numbers_of_children(self):
        self.check(low, [1], [1, (0,)], ("children", 1))
        self.check(low, [1], [1, (), (0, 1)], ("children", 1))
        self.check(low, [1], [(), 1, (1, 0)], ("children", 0))
        self.check(low, [1, 1], [1, 1, (0, 1), (2,)], ("children", 3))
        self.check(low, [1, 1], [1, 1, (1,), (0, 2)], ("children", 2))
        self.check(low, [1, 1], [1, 1, (0, 1), (), (3, 2)], ("children", 3))
        self.check(low, [1], single_chain(4100), ("children", 1))

    def test_products(self):
        self.check(low, [1, 0, 1], wide([1, 0, 1]), ("products", 3))
        self.check(low, [1, 1, 0], wide([1, 1, 0]), ("products", 3))
        self.check(low, [0, 1, 1], wide([0, 1, 1]), ("products", 3))
        self.check(parity, [1, 0, 1, 0], [1, 0, 1, 0, (0, 1), (4, 2, 3)], ("products", 5))
        # Both products are idempotent here, and yet not the same.
        self.check(left_zero, [0, 1, 0], wide([0, 1, 0]), ("products", 3))
        self.check(left_zero, [0, 1, 0], [0, 1, 0, (0, 1), (3, 2)], None)
        self.check(parity, [1, 1, 1, 0, 0, 0], [1, 1, 1, 0, 0, 0, (0, 1, 2), (3, 4, 5), (6, 7)], ("idempotent", 6))

    def test_idempotents(self):
        self.check(parity, [1, 1, 1], wide([1, 1, 1]), ("idempotent", 3))
        self.check(switch, [2, 2, 2, 2], wide([2, 2, 2, 2]), ("idempotent", 4))
        self.check(switch, [2, 2, 2], [2, 2, 2, (0, 1), (3, 2)], None)
        self.check(parity, [1, 0, 1, 1], [1, 0, (0, 1), 1, 1, (2, 3, 4)], ("idempotent", 5))

    def test_the_first_node_with_an_error(self):
        # Node 3 has products that differ, node 5 one child: the order of the list counts, not the kind.
        self.check(low, [1, 0, 1, 1], [1, 0, 1, (0, 1, 2), 1, (4,), (3, 5)], ("products", 3))
        self.check(low, [1, 1, 0, 1], [1, (0,), 1, 0, 1, (2, 3, 4), (1, 5)], ("children", 1))
        self.check(parity, [1] * 6, [1, 1, 1, (0, 1, 2), 1, 1, 1, (4, 5, 6), (3, 7)], ("idempotent", 3))
        # The node of the later leaves stands first in the list.
        self.check(low, [1, 0, 1, 1], [1, (0,), 1, 0, 1, (2, 3, 4), (5, 1)], ("children", 1))

    def test_deep_and_wide_trees(self):
        for make in (left_deep, right_deep):
            self.check(parity, [1, 0] * 1000, make([1, 0] * 1000), None)
        self.check(low, [1] * 2000, wide([1] * 2000), None)
        self.check(low, [1] * 1999 + [0], wide([1] * 1999 + [0]), ("products", 2000))
        self.check(parity, [1] * 2000, reversed_wide([1] * 2000), ("idempotent", 2000))

    def test_valid_exactly_by_the_definition(self):
        draw = random.Random(24)
        kinds = set()
        tables = [parity, low, switch, left_zero, ProductTable(lowest_rows(3)), ProductTable(nilpotent_rows(3))]
        for table in tables * 60:
            tree = drawn_tree(draw, draw.randint(1, 12), len(table) - 1)
            # In half of the trees all leaves are alike, so that their products are more often alike, too.
            alike = draw.random() < 0.5
            tree = [len(table) - 1 if node == () or alike and isinstance(node, int) else node for node in tree]
            leaves, _ = described(tree, len(tree) - 1)
            expected = None
            for index in range(len(tree) - 1, -1, -1):
                node = tree[index]
                if isinstance(node, int):
                    continue
                products = [folded(table, described(tree, child)[0]) for child in node]
                if len(node) < 2:
                    expected = ("children", index)
                elif len(node) > 2 and len(set(products)) > 1:
                    expected = ("products", index)
                elif len(node) > 2 and table.product(products[0], products[0]) != products[0]:
                    expected = ("idempotent", index)
            kinds.add(expected and expected[0])
            self.check(table, leaves, tree, expected)
        self.assertEqual(kinds, {None, "children", "products", "idempotent"})

    def test_wrong_arguments(self):
        for wrong in values_that_are_no_table():
            self.assert_raises_with(InvalidTable, "value", wrong, first_tree_error, wrong, [], [])
        for wrong in values_that_are_no_sequence(2):
            for tree in (TREE, [], None):
                self.assert_raises_with(InvalidSequence, "value", wrong, first_tree_error, low, wrong, tree)
        for value in values_that_are_no_tree():
            with self.subTest(value=value):
                self.assert_raises_with(InvalidTree, "value", value, first_tree_error, low, [1], value)

    def test_leaves_beyond_the_table_are_no_wrong_tree(self):
        self.assertEqual(first_tree_error(low, [1], [15]), ("leaf", 0))
        self.assert_raises_with(InvalidTree, "value", wrong := [16], first_tree_error, low, [1], wrong)


class JoinTest(unittest.TestCase, RaiseCheck):
    def test_example(self):
        self.assertEqual(join_trees([[1], [0, 1, (0, 1)]]), [1, 0, 1, (1, 2), (0, 3)])

    def test_trees_of_every_form(self):
        self.assertEqual(join_trees([[()], [3]]), [(), 3, (0, 1)])
        self.assertEqual(join_trees([TREE, TREE]), [1, 0, (0, 1), 1, (2, 3), 1, 0, (5, 6), 1, (7, 8), (4, 9)])
        joined = [1, (0,), 2, 3, (3, 2), 4, (1, 4, 5)]
        self.assertEqual(join_trees(trees=[[1, (0,)], [2, 3, (1, 0)], [4]]), joined)
        for forms in (([1, (0,)], [2, 3, (1, 0)], [4]), [(1, (0,)), (2, 3, (1, 0)), (4,)],
                      ((1, (0,)), [2, 3, (1, 0)], (4,))):
            result = join_trees(forms)
            self.assertEqual(result, joined)
            self.assertEqual([type(result), type(result[-1]), type(result[4])], [list, tuple, tuple])

    def test_drawn_trees(self):
        draw = random.Random(25)
        for count in (2, 3, 5, 17, 99, 100):
            trees = [drawn_tree(draw, draw.randint(1, 20), 15) for _ in range(count)]
            joined = join_trees(trees)
            self.assertIs(is_tree(joined), True)
            self.assertEqual(tree_leaves(joined), [leaf for tree in trees for leaf in tree_leaves(tree)])
            self.assertEqual(tree_height(joined), 1 + max(tree_height(tree) for tree in trees))
            self.assertEqual(len(joined[-1]), count)
            self.assertEqual(len(joined), 1 + sum(len(tree) for tree in trees))
            place = 0
            for tree in trees:
                for index, node in enumerate(tree):
                    moved = tuple(child + place for child in node) if isinstance(node, tuple) else node
                    self.assertEqual(joined[place + index], moved)
                place += len(tree)

    def test_one_tree_twice(self):
        self.assertEqual(join_trees([tree := [5], tree]), [5, 5, (0, 1)])

    def test_numbers_of_trees(self):
        self.assertEqual(join_trees([[7]] * 100), wide([7] * 100))
        for trees in ([], (), [[1]], ([1],), [[1]] * 101, ([1],) * 110, [[16]], [[16]] * 101):
            self.assert_raises_with(InvalidTree, "value", trees, join_trees, trees)

    def test_values_that_are_no_list(self):
        for trees in values_that_are_no_integer() + [0, 2, {0: [1], 1: [1]}, "01", "[1], [1]"]:
            with self.subTest(trees=trees):
                self.assert_raises_with(InvalidTree, "value", trees, join_trees, trees)

    def test_items_that_are_no_tree(self):
        for value in values_that_are_no_tree():
            with self.subTest(value=value):
                for trees in ([value, [1]], [[1], value], [[1], [1], value, [1]], ([1], value, [])):
                    self.assert_raises_with(InvalidTree, "value", value, join_trees, trees)

    def test_the_first_item_that_is_no_tree(self):
        first, second = [1, 1], [2, 2]
        self.assert_raises_with(InvalidTree, "value", first, join_trees, [[1], first, second])
        self.assert_raises_with(InvalidTree, "value", second, join_trees, [second, [1], first])
        # A tuple of two leaves would be a list of nodes, but the second leaf would be no child.
        self.assert_raises_with(InvalidTree, "value", pair := (1, 1), join_trees, [pair, [1]])

    def test_numbers_of_nodes(self):
        self.assertEqual(len(join_trees([single_chain(4098), [1]])), 4100)
        self.assertEqual(tree_height(join_trees([single_chain(2049), single_chain(2050)])), 2050)
        self.assertEqual(self.raised(TooMany, join_trees, [single_chain(4099), [1]]).count, 4101)
        self.assertEqual(self.raised(TooMany, join_trees, [single_chain(4100)] * 2).count, 8201)
        self.assertEqual(self.raised(TooMany, join_trees, [wide([1] * 40)] * 100).count, 4101)
        self.assertEqual(len(join_trees([wide([1] * 40)] * 99 + [wide([1] * 39)])), 4100)

    def test_a_wrong_tree_before_too_many_nodes(self):
        wrong = single_chain(4101)
        trees = [single_chain(4100), single_chain(4100), wrong]
        self.assert_raises_with(InvalidTree, "value", wrong, join_trees, trees)

    def test_joined_trees_are_not_changed(self):
        trees = [[1, (0,)], [2, 3, (1, 0)]]
        kept = copy.deepcopy(trees)
        result = join_trees(trees)
        result.append(0)
        result[0] = 9
        self.assertEqual(trees, kept)
        self.assertEqual(join_trees(trees), [1, (0,), 2, 3, (3, 2), (1, 4)])


class GreatTreesTest(unittest.TestCase):
    """Promises [52] to [55] for trees of up to 4,100 nodes of every shape."""

    def check(self, tree, leaves, height, spans):
        """Check what is promised of a tree without sequences; the spans are a dict from some indexes to their spans."""
        for form in (tree, tuple(tree)):
            self.assertIs(is_tree(form), True)
            self.assertEqual([tree_leaves(form), tree_height(form)], [leaves, height])
            found = tree_spans(form)
            self.assertEqual([len(found), found[-1]], [len(tree), (0, len(leaves))])
            self.assertEqual({index: found[index] for index in spans}, spans)
            for index, node in enumerate(tree):
                if isinstance(node, tuple) and node:
                    self.assertEqual([found[child][0] for child in node[1:]], [found[child][1] for child in node[:-1]])
                    self.assertEqual(found[index], (found[node[0]][0], found[node[-1]][1]))
                elif isinstance(node, int):
                    self.assertEqual(leaves[found[index][0]:found[index][1]], [node])

    def check_products(self, table, tree):
        """Check the products of all nodes, each by those of its children."""
        products = tree_products(table, tree)
        for index, node in enumerate(tree):
            if isinstance(node, int):
                self.assertEqual(products[index], node)
            else:
                made = [products[child] for child in node if products[child] is not None]
                self.assertEqual(products[index], folded(table, made) if made else None)

    def test_pairs_one_inside_the_other(self):
        draw = random.Random(26)
        for count in (1999, 2000, 2050):
            leaves = [draw.randrange(3) for _ in range(count)]
            middle = count // 2
            for make, spans in ((left_deep, {2 * k: (0, k + 1) for k in range(1, count)}),
                                (right_deep, {2 * k: (count - k - 1, count) for k in range(1, count)}),
                                (alternating, {2: (middle - 1, middle + 1), 4: (middle - 1, middle + 2)})):
                tree = make(leaves)
                self.assertEqual(len(tree), 2 * count - 1)
                self.check(tree, leaves, count - 1, spans)
                self.check_products(switch, tree)
                mixed = reordered(tree, draw)
                self.check(mixed, leaves, count - 1, {})
                self.check_products(switch, mixed)
                if count <= 2000:
                    self.check_errors(switch, leaves, tree)
                    self.check_errors(switch, leaves, mixed)

    def check_errors(self, table, leaves, tree):
        """Check a valid tree, and what is wrong with it for sequences that differ at one place or in length."""
        self.assertIsNone(first_tree_error(table, leaves, tree))
        for place in (0, 1, len(leaves) // 2, len(leaves) - 1):
            changed = leaves[:place] + [(leaves[place] + 1) % len(table)] + leaves[place + 1:]
            self.assertEqual(first_tree_error(table, changed, tree), ("leaf", place))
        self.assertEqual(first_tree_error(table, leaves[1:], tree), ("length", len(leaves)))

    def test_a_root_over_all_leaves(self):
        draw = random.Random(27)
        for make in (wide, reversed_wide):
            leaves = [draw.randrange(16) for _ in range(4099)]
            self.check(make(leaves), leaves, 1, {})
            self.check_products(circle, make(leaves))
            self.check_errors(low, [1] * 2000, make([1] * 2000))
            self.check_errors(left_zero, [1] * 1999, reordered(make([1] * 1999), draw))
            for place in (0, 1, 1000, 1999):
                wrong = [1] * place + [0] + [1] * (1999 - place)
                self.assertEqual(first_tree_error(low, wrong, make(wrong)), ("products", 2000))
            self.assertEqual(first_tree_error(switch, [2] * 2000, make([2] * 2000)), ("idempotent", 2000))

    def test_a_root_over_deep_trees(self):
        draw = random.Random(28)
        for count in (2, 3, 5):
            size = 2000 // count
            # With a 0 in each of them, all parts have this product.
            parts = [[0] + drawn_sequence(switch, size - 1, draw) for _ in range(count)]
            leaves = [leaf for part in parts for leaf in part]
            makes = [left_deep, right_deep, alternating, right_deep, left_deep]
            tree = join_trees([make(part) for make, part in zip(makes, parts)])
            for form in (tree, reordered(tree, draw)):
                self.check(form, leaves, size, {})
                self.check_products(switch, form)
                self.check_errors(switch, leaves, form)

    def test_an_error_deep_in_a_great_tree(self):
        draw = random.Random(29)
        for make in (left_deep, right_deep, alternating):
            leaves = drawn_sequence(switch, 1900, draw)
            tree = make(leaves)
            # A node with one child between the first pair and the pair around it.
            tree = tree[:3] + [(2,)] + [tuple(3 if child == 2 else child + 1 if child > 2 else child for child in node)
                                        if isinstance(node, tuple) else node for node in tree[3:]]
            self.assertEqual(first_tree_error(switch, leaves, tree), ("children", 3))
        tree = join_trees([left_deep([1] * 900), wide([2, 2, 2]), right_deep([1] * 900)])
        index = len(left_deep([1] * 900)) + 3
        self.assertEqual(first_tree_error(switch, [1] * 900 + [2] * 3 + [1] * 900, tree), ("idempotent", index))
        tree = join_trees([left_deep([1] * 900), [1, 0, 1, (0, 1, 2)], right_deep([1] * 900)])
        self.assertEqual(first_tree_error(switch, [1] * 901 + [0] + [1] * 901, tree), ("products", index))

    def test_nodes_too_many(self):
        self.assertIs(is_tree(left_deep([1] * 2051)), False)
        self.assertIs(is_tree(right_deep([1] * 2051)), False)
        self.assertIs(is_tree(alternating([1] * 2051)), False)
        self.assertIs(is_tree(left_deep([1] * 2050)), True)
