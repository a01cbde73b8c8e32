"""Promises [81] to [84]: the product index."""

import random
import unittest

from producttrees.building import build_tree
from producttrees.errors import FaultyTree, InvalidRange, InvalidSequence, InvalidTable, InvalidTree
from producttrees.heights import minimal_tree
from producttrees.indexes import ProductIndex
from producttrees.levels import height_bound
from producttrees.tables import ProductTable
from producttrees.trees import evaluate, first_tree_error, join_trees, tree_height, tree_spans
from tests.helpers import (LOW, PARITY, SWITCH, RaiseCheck, alternating, cyclic_rows, drawn_sequence, left_deep,
                           left_zero_rows, lowest_rows, pair_rows, reordered, reversed_wide, right_deep, sequences,
                           values_that_are_no_element, values_that_are_no_integer, values_that_are_no_sequence,
                           values_that_are_no_table, values_that_are_no_tree, various_tables, wide)

parity = ProductTable(PARITY)
low = ProductTable(LOW)
switch = ProductTable(SWITCH)
TABLES = various_tables()


def runs_of_spans(tree):
    """Return a dict of the ranges that a part may be: spans of nodes and of runs of children."""
    spans = tree_spans(tree)
    found = {span: True for span in spans}
    for node in tree:
        if isinstance(node, tuple) and len(node) > 2:
            for first in range(len(node)):
                for last in range(first + 1, len(node)):
                    found[spans[node[first]][0], spans[node[last]][1]] = True
    return found


def drawn_valid_tree(table, sequence, draw):
    """Return a valid tree whose nodes have drawn children: two of any kind, or more where that is allowed."""
    roots = [([element], element) for element in sequence]
    idempotents = table.idempotents()
    while len(roots) > 1:
        first = draw.randrange(len(roots) - 1)
        stop = first + 2
        element = roots[first][1]
        if element in idempotents and roots[first + 1][1] == element:
            longest = first + 2
            while longest < len(roots) and roots[longest][1] == element:
                longest += 1
            stop = draw.randint(first + 2, longest)
        trees = [tree for tree, _ in roots[first:stop]]
        product = evaluate(table, [made for _, made in roots[first:stop]])
        roots[first:stop] = [(join_trees(trees), product)]
    return roots[0][0]


def long_ranges(count, draw):
    """Return long and short ranges of a sequence."""
    found = [(0, count), (0, count - 1), (1, count), (1, count - 1), (0, 1), (count - 1, count), (0, count // 2),
             (count // 2, count), (count // 2 - 1, count // 2 + 2)]
    for _ in range(25):
        start = draw.randrange(count)
        found.append((start, draw.randint(start + 1, count)))
        found.append((start, min(count, start + draw.randint(1, 6))))
    return found


class IndexCheck(unittest.TestCase, RaiseCheck):
    def check(self, index, table, sequence, ranges=None):
        """Check the products and the parts of ranges, of all of them if none are named; return the greatest number of
        parts."""
        count = len(sequence)
        allowed = runs_of_spans(index.tree()) if count <= 81 else None
        most = max(1, 2 * index.height() - 1)
        greatest = 0
        if ranges is None:
            ranges = [(start, stop) for start in range(count) for stop in range(start + 1, count + 1)]
        for start, stop in ranges:
            self.assertEqual(index.product(start, stop), evaluate(table, sequence, start, stop))
            parts = index.parts(start, stop)
            self.assertEqual([parts[0][0], parts[-1][1]], [start, stop])
            self.assertEqual([part[1] for part in parts[:-1]], [part[0] for part in parts[1:]])
            self.assertTrue(all(low < high for low, high in parts))
            self.assertLessEqual(len(parts), most)
            greatest = max(greatest, len(parts))
            if allowed is not None:
                self.assertEqual([part for part in parts if part not in allowed], [])
        return greatest


class RangesTest(IndexCheck):
    def test_example(self):
        index = ProductIndex(low, [1, 1, 1, 1, 1], tree=[1, 1, 1, 1, 1, (0, 1, 2, 3, 4)])
        self.assertEqual([index.height(), index.product(1, 4), index.parts(1, 4)], [1, 1, [(1, 4)]])

    def test_all_ranges_of_built_trees(self):
        draw = random.Random(61)
        for table in TABLES[::2]:
            for length in (1, 2, 3, 9):
                sequence = drawn_sequence(table, length, draw)
                self.check(ProductIndex(table, sequence), table, sequence)
        for table in TABLES[::10]:
            for sequence in sequences(table, 40, draw)[::2]:
                self.check(ProductIndex(table, sequence), table, sequence)

    def test_all_ranges_of_minimal_trees(self):
        draw = random.Random(62)
        for table in TABLES[::10]:
            for sequence in sequences(table, 24, draw)[::2]:
                self.check(ProductIndex(table, sequence, tree=minimal_tree(table, sequence)), table, sequence)

    def test_all_ranges_of_told_trees(self):
        draw = random.Random(63)
        for table in TABLES[::7]:
            for length in (1, 2, 3, 20):
                sequence = drawn_sequence(table, length, draw)
                for make in (left_deep, right_deep, alternating):
                    tree = make(sequence)
                    for form in (tree, tuple(tree), reordered(tree, draw)):
                        self.check(ProductIndex(table, sequence, tree=form), table, sequence)

    def test_all_ranges_of_drawn_trees(self):
        draw = random.Random(64)
        for table in TABLES[::5] + [low, parity, switch, ProductTable(left_zero_rows(2)), ProductTable([[0]])]:
            few = [draw.randrange(len(table)) for _ in range(2)]
            sequence = [draw.choice(few) for _ in range(18)]
            for _ in range(4):
                tree = reordered(drawn_valid_tree(table, sequence, draw), draw)
                self.assertIsNone(first_tree_error(table, sequence, tree))
                self.check(ProductIndex(table, sequence, tree=tree), table, sequence)

    def test_children_that_lie_in_the_range_are_one_part(self):
        for make in (wide, reversed_wide):
            index = ProductIndex(low, [1] * 60, tree=make([1] * 60))
            self.assertEqual(self.check(index, low, [1] * 60), 1)
        # The root has six children, each of which has three.
        tree = join_trees([wide([1] * 3)] * 6)
        index = ProductIndex(low, [1] * 18, tree=tree)
        self.assertEqual(index.height(), 2)
        self.assertEqual(self.check(index, low, [1] * 18), 3)
        self.assertEqual(index.parts(1, 17), [(1, 3), (3, 15), (15, 17)])
        self.assertEqual([index.parts(3, 15), index.parts(3, 17), index.parts(0, 18), index.parts(4, 5)],
                         [[(3, 15)], [(3, 15), (15, 17)], [(0, 18)], [(4, 5)]])

    def test_two_children_are_one_part_only_if_all_of_a_node(self):
        index = ProductIndex(parity, [1, 1, 0, 1], tree=[1, 1, (0, 1), 0, 1, (3, 4), (2, 5)])
        self.assertEqual([index.parts(0, 2), index.parts(1, 3), index.parts(0, 4), index.parts(1, 4)],
                         [[(0, 2)], [(1, 2), (2, 3)], [(0, 4)], [(1, 2), (2, 4)]])

    def test_as_many_parts_as_the_bound_allows(self):
        # In nested nodes with three children, a range can need two parts of each height but the last.
        nodes = [1]
        for _ in range(4):
            nodes = join_trees([nodes, nodes, nodes])
        index = ProductIndex(low, [1] * 81, tree=nodes)
        self.assertEqual(index.height(), 4)
        ranges = [(start, stop) for start in range(27) for stop in range(55, 82)]
        self.assertEqual(self.check(index, low, [1] * 81, ranges), 7)

    def test_two_thousand_elements(self):
        draw = random.Random(65)
        for table in TABLES[::20]:
            for sequence in sequences(table, 2000, draw)[::3]:
                index = ProductIndex(table, sequence)
                self.assertLessEqual(index.height(), height_bound(table))
                self.check(index, table, sequence, long_ranges(2000, draw))

    def test_two_thousand_elements_in_told_trees(self):
        draw = random.Random(66)
        sequence = drawn_sequence(switch, 2000, draw)
        for make in (left_deep, right_deep, alternating):
            for tree in (make(sequence), reordered(make(sequence), draw)):
                index = ProductIndex(switch, sequence, tree=tree)
                self.assertEqual([index.height(), len(index)], [1999, 2000])
                self.check(index, switch, sequence, long_ranges(2000, draw)[:20])
        index = ProductIndex(low, [1] * 2000, tree=wide([1] * 2000))
        self.assertEqual(self.check(index, low, [1] * 2000, long_ranges(2000, draw)), 1)

    def test_few_parts_of_long_ranges(self):
        # Whatever the length, the number of parts depends on the table only.
        draw = random.Random(67)
        for table in (parity, low, ProductTable(cyclic_rows(3))):
            sequence = drawn_sequence(table, 2000, draw)
            index = ProductIndex(table, sequence)
            self.assertLessEqual(self.check(index, table, sequence, long_ranges(2000, draw)),
                                 2 * height_bound(table) - 1)

    def test_kinds_of_results(self):
        index = ProductIndex(low, (1, 0, 1, 1))
        parts = index.parts(stop=3, start=0)
        self.assertEqual([type(parts), type(parts[0]), type(parts[0][0])], [list, tuple, int])
        self.assertEqual({len(part) for part in parts}, {2})
        self.assertEqual([index.product(stop=3, start=0), index.product(2, 4)], [0, 1])
        self.assertIs(type(index.product(0, 1)), int)

    def test_wrong_bounds(self):
        index = ProductIndex(low, [1, 1, 0, 1])
        bounds = [(0, 0), (4, 4), (2, 1), (4, 0), (5, 6), (-1, 2), (0, -1), (-2, -1), (0, 5), (3, 5), (0, 10 ** 29),
                  (-10 ** 29, 1), (0, None), (None, 4), (None, None), (True, 2), (False, 2), (0, True), (0, False),
                  ("0", 2), (0, "2"), ([0], 2), (0, [2]), (0, (2,)), ({}, 1), (0, {}), (index, 1), (0, low)]
        for start, stop in bounds:
            with self.subTest(start=start, stop=stop):
                for method in (index.product, index.parts):
                    for error in (self.raised(InvalidRange, method, start, stop),
                                  self.raised(InvalidRange, method, stop=stop, start=start)):
                        self.assertEqual([type(error.bounds), len(error.bounds)], [tuple, 2])
                        self.assertIs(error.bounds[0], start)
                        self.assertIs(error.bounds[1], stop)


class ContentsTest(IndexCheck):
    def test_contents(self):
        draw = random.Random(68)
        for table in TABLES[::6]:
            for length in (1, 2, 25):
                sequence = drawn_sequence(table, length, draw)
                index = ProductIndex(table, sequence)
                self.assertEqual(index.tree(), build_tree(table, sequence))
                for tree in (build_tree(table, sequence), minimal_tree(table, sequence), left_deep(sequence)):
                    for form in (tree, tuple(tree)):
                        told = ProductIndex(tree=form, sequence=tuple(sequence), table=table)
                        self.assertEqual([told.table(), told.sequence(), told.tree()], [table, sequence, tree])
                        self.assertEqual([told.height(), len(told)], [tree_height(tree), length])
                        self.assertEqual([type(told.sequence()), type(told.tree())], [list, list])

    def test_no_tree(self):
        index = ProductIndex(low, [1, 0, 1], tree=None)
        self.assertEqual(index.tree(), ProductIndex(low, [1, 0, 1]).tree())
        self.assertIs(index.table(), low)
        self.assertEqual(ProductIndex(sequence=[1], table=low).tree(), [1])

    def test_the_tree_is_passed_by_name(self):
        with self.assertRaises(TypeError):
            ProductIndex(low, [1], [1])

    def test_later_changes(self):
        sequence, tree = [1, 0, 1], [1, 0, (0, 1), 1, (2, 3)]
        index = ProductIndex(low, sequence, tree=tree)
        results = [index.parts(1, 3), index.product(1, 3), index.product(2, 3), index.longest_range(2, [1])]
        sequence[2] = 0
        sequence.append(7)
        tree[3] = 0
        tree.pop()
        index.sequence().clear()
        index.tree().clear()
        index.tree()[0] = 9
        index.parts(1, 3).clear()
        self.assertEqual([index.sequence(), index.tree(), len(index)], [[1, 0, 1], [1, 0, (0, 1), 1, (2, 3)], 3])
        self.assertEqual([index.parts(1, 3), index.product(1, 3), index.product(2, 3), index.longest_range(2, [1])],
                         results)

    def test_an_index_of_its_own_contents(self):
        index = ProductIndex(low, [1, 0, 1, 1])
        again = ProductIndex(index.table(), index.sequence(), tree=index.tree())
        self.assertEqual([again.tree(), again.parts(1, 4)], [index.tree(), index.parts(1, 4)])

    def test_equality(self):
        index = ProductIndex(low, [1])
        self.assertTrue(index == index)
        self.assertFalse(index == ProductIndex(low, [1]))
        self.assertTrue(index != ProductIndex(low, [1]))
        self.assertFalse(index == [1])

    def test_indexes_used_by_turns(self):
        first, second = ProductIndex(low, [1, 0, 1]), ProductIndex(low, [0, 1, 1, 1], tree=left_deep([0, 1, 1, 1]))
        third = ProductIndex(parity, [1, 0, 1])
        for _ in range(2):
            self.assertEqual([first.product(0, 3), second.product(1, 4), third.product(0, 3)], [0, 1, 0])
            self.assertEqual([first.longest_range(2, [1]), second.longest_range(1, [1]), third.longest_range(0, [1])],
                             [3, 4, 2])
            self.assertEqual([len(first), len(second), len(third)], [3, 4, 3])
            with self.assertRaises(InvalidRange):
                first.product(0, 4)


class LongestRangeTest(IndexCheck):
    def test_example(self):
        self.assertEqual(ProductIndex(low, [1, 1, 0, 1]).longest_range(0, [1]), 2)
        self.assertIsNone(ProductIndex(low, [0, 1]).longest_range(0, [1]))

    def expected(self, table, sequence, start, allowed):
        stops = [stop for stop in range(start + 1, len(sequence) + 1)
                 if evaluate(table, sequence, start, stop) in allowed]
        return max(stops, default=None)

    def test_every_start_and_several_lists(self):
        draw = random.Random(69)
        for table in TABLES[::4]:
            size = len(table)
            for sequence in sequences(table, 15, draw)[::4]:
                index = ProductIndex(table, sequence)
                lists = [[], [draw.randrange(size)], list(range(size)), [draw.randrange(size)] * 16,
                         [draw.randrange(size) for _ in range(draw.randint(1, 16))]]
                for start in range(15):
                    for allowed in lists:
                        expected = self.expected(table, sequence, start, allowed)
                        self.assertEqual(index.longest_range(start, allowed), expected)
                        self.assertEqual(index.longest_range(allowed=tuple(allowed), start=start), expected)

    def test_no_and_all_elements(self):
        index = ProductIndex(parity, [1, 0, 1])
        self.assertEqual([index.longest_range(start, []) for start in range(3)], [None] * 3)
        self.assertEqual([index.longest_range(start, ()) for start in range(3)], [None] * 3)
        self.assertEqual([index.longest_range(start, [1, 0]) for start in range(3)], [3] * 3)
        self.assertEqual([index.longest_range(start, [1] * 16) for start in range(3)], [2, 3, 3])

    def test_the_greatest_stop_after_others_that_fail(self):
        index = ProductIndex(parity, [1] * 1999)
        self.assertEqual([index.longest_range(0, [0]), index.longest_range(0, [1]), index.longest_range(1998, [0])],
                         [1998, 1999, None])
        self.assertEqual(ProductIndex(low, [1] * 1000 + [0] * 1000).longest_range(3, [1]), 1000)

    def test_lists_are_not_changed(self):
        allowed = [1, 1, 0]
        ProductIndex(low, [1, 0]).longest_range(0, allowed)
        self.assertEqual(allowed, [1, 1, 0])

    def test_wrong_starts(self):
        index = ProductIndex(low, [1, 1, 0, 1])
        for start in values_that_are_no_integer() + [-1, 4, 5, -4, 10 ** 29, -10 ** 29, [0], ()]:
            for allowed in ([1], [], None, [2]):
                error = self.raised(InvalidRange, index.longest_range, start, allowed)
                self.assertEqual([type(error.bounds), len(error.bounds)], [tuple, 2])
                self.assertIs(error.bounds[0], start)
                self.assertIsNone(error.bounds[1])

    def test_wrong_lists(self):
        for table in (low, switch, ProductTable(lowest_rows(16))):
            index = ProductIndex(table, [1, 1, 0, 1])
            wrongs = [None, True, 0, "", "1", {}, {1: 1}, {0: 0}, table, [0] * 17, (0,) * 17, [0] * 26, [[0]], ([0],)]
            wrongs += [[wrong] for wrong in values_that_are_no_element(len(table))]
            wrongs += [[0, wrong, 1] for wrong in values_that_are_no_element(len(table))]
            for wrong in wrongs:
                with self.subTest(wrong=wrong):
                    self.assert_raises_with(InvalidSequence, "value", wrong, index.longest_range, 0, wrong)
                    named = {"allowed": wrong, "start": 3}
                    self.assert_raises_with(InvalidSequence, "value", wrong, index.longest_range, **named)


class ArgumentsTest(IndexCheck):
    def test_values_that_are_no_table(self):
        for wrong in values_that_are_no_table():
            for sequence in ([0], [], None):
                self.assert_raises_with(InvalidTable, "value", wrong, ProductIndex, wrong, sequence)
                for tree in (None, [0], [0, 0], 7):
                    self.assert_raises_with(InvalidTable, "value", wrong, ProductIndex, wrong, sequence, tree=tree)

    def test_values_that_are_no_sequence(self):
        for wrong in values_that_are_no_sequence(2):
            with self.subTest(wrong=wrong):
                self.assert_raises_with(InvalidSequence, "value", wrong, ProductIndex, low, wrong)
                for tree in (None, [0], [0, 0], 7):
                    self.assert_raises_with(InvalidSequence, "value", wrong, ProductIndex, low, wrong, tree=tree)

    def test_values_that_are_no_tree(self):
        for wrong in values_that_are_no_tree() + [False, wide([1] * 4100)]:
            if wrong is not None:
                with self.subTest(wrong=wrong):
                    self.assert_raises_with(InvalidTree, "value", wrong, ProductIndex, low, [1], tree=wrong)

    def test_trees_with_an_error(self):
        cases = [
            (low, [1], [1, 1, (0, 1)], "length", 2), (low, [1], [()], "length", 0), (low, [1, 1], [1], "length", 1),
            (low, [1], [0], "leaf", 0), (low, [1, 0], [1, 15, (0, 1)], "leaf", 1), (low, [1], [1, (0,)], "children", 1),
            (low, [1, 1], [1, (0,), 1, (1, 2)], "children", 1), (low, [1, 1], [(), 1, 1, (0, 1, 2)], "children", 0),
            (low, [1, 0, 1], wide([1, 0, 1]), "products", 3), (parity, [1, 1, 1], wide([1, 1, 1]), "idempotent", 3),
            (low, [1, 0, 1, 1], [1, 0, 1, (0, 1, 2), 1, (4,), (3, 5)], "products", 3),
            (low, [1] * 2000, wide([1] * 4099), "length", 4099),
        ]
        for table, sequence, tree, kind, index in cases:
            with self.subTest(tree=tree[:9]):
                self.assertEqual(first_tree_error(table, sequence, tree), (kind, index))
                for form in (tree, tuple(tree)):
                    error = self.raised(FaultyTree, ProductIndex, table, sequence, tree=form)
                    self.assertEqual([error.kind, error.index], [kind, index])

    def test_a_tree_of_another_sequence(self):
        table = ProductTable(pair_rows(LOW, PARITY))
        tree = build_tree(table, [3, 1, 2, 0])
        error = self.raised(FaultyTree, ProductIndex, table, [3, 1, 3, 0], tree=tree)
        self.assertEqual([error.kind, error.index], ["leaf", 2])
