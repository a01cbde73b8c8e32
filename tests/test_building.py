"""Promises [61] to [64]: built trees."""

import random
import unittest

from producttrees.building import build_tree, cut_at_level, gap_labels
from producttrees.errors import InvalidLevel, InvalidSequence, InvalidTable
from producttrees.levels import group_cells, height_bound, left_class, level_of, levels, right_class
from producttrees.tables import ProductTable
from producttrees.trees import evaluate, first_tree_error, is_tree, tree_height, tree_leaves
from tests.helpers import (LEFT_ZERO, LOW, NULL, PARITY, SWITCH, RaiseCheck, cyclic_rows, drawn_sequence, drawn_tables,
                           left_zero_rows, lowest_rows, matrix_rows, nilpotent_rows, pair_rows, right_zero_rows,
                           sequences, symmetric_rows, values_that_are_no_element, values_that_are_no_integer,
                           values_that_are_no_sequence, values_that_are_no_table, various_tables)

parity = ProductTable(PARITY)
low = ProductTable(LOW)
switch = ProductTable(SWITCH)
pairs = ProductTable(matrix_rows(2, 2, [[1, 0], [0, 1]]))
TABLES = various_tables()


def expected_cut(table, sequence, level):
    """Return the pieces and the rest, by trying the beginnings of what is left."""
    pieces, start, stop = [], 0, 1
    while stop <= len(sequence):
        if level_of(table, evaluate(table, sequence, start, stop)) >= level:
            pieces.append((start, stop))
            start = stop
        stop += 1
    return pieces, start


def expected_labels(table, sequence, level):
    """Return the labels by their definition; checks that the cells are group cells."""
    pieces, _ = expected_cut(table, sequence, level)
    products = [evaluate(table, sequence, start, stop) for start, stop in pieces]
    cells, labels = [], []
    for gap in range(1, len(pieces)):
        left, right = left_class(table, products[gap - 1]), right_class(table, products[gap])
        cell = [element for element in left if element in right]
        identities = [identity for identity, members in group_cells(table) if members == cell]
        assert len(identities) == 1
        if cell in cells:
            value = evaluate(table, products, cells.index(cell) + 1, gap)
        else:
            value = identities[0]
        cells.append(cell)
        labels.append((identities[0], value))
    return labels


class CutTest(unittest.TestCase, RaiseCheck):
    def test_example(self):
        results = [cut_at_level(low, [1, 1, 0, 1, 0, 1], 0), cut_at_level(low, [1, 1, 0, 1, 0, 1], 1)]
        self.assertEqual(results, [([(0, 1), (1, 2), (2, 3), (3, 4), (4, 5), (5, 6)], 6), ([(0, 3), (3, 5)], 5)])

    def test_pieces_and_rest_by_their_definition(self):
        draw = random.Random(31)
        rests = 0
        for table in TABLES:
            for length in (1, 2, 9):
                sequence = drawn_sequence(table, length, draw)
                for level in range(len(levels(table))):
                    expected = expected_cut(table, sequence, level)
                    result = cut_at_level(table, sequence, level)
                    self.assertEqual(result, expected)
                    self.assertEqual(cut_at_level(level=level, sequence=tuple(sequence), table=table), expected)
                    rests += result[1] < length
        self.assertGreater(rests, 50)

    def test_kinds_of_results(self):
        for level in (0, 1):
            result = cut_at_level(low, [1, 0, 1], level)
            self.assertEqual([type(result), type(result[0]), type(result[1])], [tuple, list, int])
            self.assertEqual({type(piece) for piece in result[0]}, {tuple})

    def test_no_piece_and_no_rest(self):
        self.assertEqual(cut_at_level(low, [1], 1), ([], 0))
        self.assertEqual(cut_at_level(low, [1, 1, 1], 1), ([], 0))
        self.assertEqual(cut_at_level(low, [1], 0), ([(0, 1)], 1))
        self.assertEqual(cut_at_level(low, [1, 1, 0], 1), ([(0, 3)], 3))
        self.assertEqual(cut_at_level(low, [0, 0, 1], 1), ([(0, 1), (1, 2)], 2))

    def test_several_levels(self):
        chain = ProductTable(lowest_rows(4))
        sequence = [3, 2, 3, 1, 3, 3, 0, 2, 2, 3]
        self.assertEqual(cut_at_level(chain, sequence, 0)[0], [(k, k + 1) for k in range(10)])
        self.assertEqual(cut_at_level(chain, sequence, 1), ([(0, 2), (2, 4), (4, 7), (7, 8), (8, 9)], 9))
        self.assertEqual(cut_at_level(chain, sequence, 2), ([(0, 4), (4, 7)], 7))
        self.assertEqual(cut_at_level(chain, sequence, 3), ([(0, 7)], 7))

    def test_levels_without_an_idempotent(self):
        lengths = ProductTable(nilpotent_rows(4))
        self.assertEqual(cut_at_level(lengths, [0] * 7, 2), ([(0, 3), (3, 6)], 6))
        self.assertEqual(cut_at_level(lengths, [0] * 9, 3), ([(0, 4), (4, 8)], 8))
        self.assertEqual(cut_at_level(ProductTable(NULL), [1, 1, 1], 1), ([(0, 2)], 2))

    def test_levels_beside_each_other(self):
        apart = ProductTable([[a if a == b else 2 for b in range(3)] for a in range(3)])
        self.assertEqual(levels(apart), [[0], [1], [2]])
        # At level 1 a piece ends as soon as its product is not 0, and so does one that is 1 from the start.
        self.assertEqual(cut_at_level(apart, [0, 0, 1, 1, 0, 2, 0], 1), ([(0, 3), (3, 4), (4, 6)], 6))
        self.assertEqual(cut_at_level(apart, [0, 0, 1, 1, 0, 2, 0], 2), ([(0, 3), (3, 5), (5, 6)], 6))

    def test_two_thousand_elements(self):
        self.assertEqual(cut_at_level(low, [1] * 1999 + [0], 1), ([(0, 2000)], 2000))
        self.assertEqual(len(cut_at_level(parity, [1] * 2000, 0)[0]), 2000)

    def test_levels_at_and_beyond_the_limits(self):
        for table in (parity, low, ProductTable(lowest_rows(16)), pairs):
            count = len(levels(table))
            for function, kind in ((cut_at_level, tuple), (gap_labels, list)):
                self.assertIs(type(function(table, [len(table) - 1], count - 1)), kind)
                for wrong in values_that_are_no_integer() + [-1, count, count + 1, -count, 16, 10 ** 29]:
                    with self.subTest(count=count, wrong=wrong):
                        self.assert_raises_with(InvalidLevel, "value", wrong, function, table, [len(table) - 1], wrong)


class LabelsTest(unittest.TestCase, RaiseCheck):
    def test_example(self):
        self.assertEqual(gap_labels(parity, [1, 1, 0, 1, 0], 0), [(0, 0), (0, 1), (0, 1), (0, 0)])
        self.assertEqual(gap_labels(low, [1, 0, 1, 0], 1), [(0, 0)])

    def test_fewer_than_two_pieces(self):
        self.assertEqual(gap_labels(low, [1, 1], 1), [])
        self.assertEqual(gap_labels(low, [1], 0), [])
        self.assertEqual(gap_labels(low, [1, 1, 0, 1, 1], 1), [])
        self.assertEqual(gap_labels(ProductTable(nilpotent_rows(4)), [0, 0, 0], 3), [])
        self.assertEqual(gap_labels(ProductTable(nilpotent_rows(4)), [0, 0, 0], 2), [])

    def test_labels_by_their_definition(self):
        draw = random.Random(32)
        several = 0
        for table in TABLES:
            found = [drawn_sequence(table, length, draw) for length in (1, 2, 12)]
            # Only products of elements of one level are likely to stay in it.
            found += [[draw.choice(members) for _ in range(5)] for members in levels(table)]
            for sequence in found:
                for level in range(level_of(table, evaluate(table, sequence)), len(levels(table))):
                    labels = gap_labels(table, sequence, level)
                    self.assertEqual(labels, expected_labels(table, sequence, level))
                    self.assertEqual(gap_labels(level=level, sequence=tuple(sequence), table=table), labels)
                    several += len({identity for identity, _ in labels}) > 1
        self.assertGreater(several, 50)

    def test_one_group_cell(self):
        circle = ProductTable(cyclic_rows(16))
        self.assertEqual(gap_labels(circle, [5, 7, 8, 0, 4, 9], 0), [(0, 0), (0, 7), (0, 15), (0, 15), (0, 3)])
        swaps = ProductTable(symmetric_rows())
        sequence = [3, 1, 2, 5, 4, 1, 3]
        expected = [(0, 0)] + [(0, evaluate(swaps, sequence, 1, stop)) for stop in range(2, 7)]
        self.assertEqual(gap_labels(swaps, sequence, 0), expected)
        self.assertEqual(gap_labels(switch, [2, 1, 2, 2], 0), [(1, 1), (1, 1), (1, 2)])

    def test_several_group_cells(self):
        self.assertEqual(gap_labels(ProductTable(LEFT_ZERO), [0, 1, 1, 0], 0), [(1, 1), (1, 1), (0, 0)])
        self.assertEqual(gap_labels(ProductTable(right_zero_rows(3)), [2, 0, 1, 2], 0), [(2, 2), (0, 0), (1, 1)])
        # Elements 0 to 2 and 3 to 5 of this table are circles of three; which of them is meant, the right factor tells.
        circles = ProductTable(pair_rows(LEFT_ZERO, cyclic_rows(3)))
        self.assertEqual(gap_labels(circles, [0, 1, 4, 1, 2, 5], 0), [(0, 0), (3, 3), (0, 2), (0, 0), (3, 4)])
        self.assertEqual(gap_labels(pairs, [0, 1, 3, 2, 0], 0), [(0, 0), (3, 3), (3, 3), (0, 0)])

    def test_products_in_a_later_level(self):
        for sequence in ([0], [1, 0], [0, 1, 1], [1] * 1999 + [0]):
            self.assert_raises_with(InvalidLevel, "value", level := 0, gap_labels, low, sequence, level)
            self.assertIs(type(gap_labels(low, sequence, 1)), list)
        chain = ProductTable(lowest_rows(16))
        for level in range(16):
            element = 15 - level
            expected = [(element, element)] if level else [(15, 15), (15, 15)]
            self.assertEqual(gap_labels(chain, [15, element, element], level), expected)
            for wrong in range(level):
                self.assert_raises_with(InvalidLevel, "value", wrong, gap_labels, chain, [15, element, element], wrong)
        # The product of the pairs (0, 0) and (1, 0) is the last element.
        self.assert_raises_with(InvalidLevel, "value", level := 0, gap_labels, pairs, [0, 2], level)
        self.assertEqual(gap_labels(pairs, [0, 2], 1), [])

    def test_kinds_of_results(self):
        labels = gap_labels(low, [0, 1, 0], 1)
        self.assertEqual([type(labels), type(labels[0])], [list, tuple])
        self.assertEqual({type(part) for label in labels for part in label}, {int})

    def check_guarantees(self, table, sequence, level):
        pieces, _ = cut_at_level(table, sequence, level)
        labels = gap_labels(table, sequence, level)
        members = levels(table)[level]
        for i in range(len(pieces)):
            for j in range(i, len(pieces)):
                made = evaluate(table, sequence, pieces[i][0], pieces[j][1])
                self.assertIn(made, members)
                # The gaps around these pieces have the indexes i - 1 and j.
                if i > 0 and j < len(labels) and labels[i - 1] == labels[j]:
                    self.assertEqual(made, labels[j][0])
        grouped = [one for _, cell in group_cells(table) for one in cell if one in members]
        self.assertLessEqual(len(set(labels)), len(grouped))

    def test_pieces_stay_in_the_level_and_equal_labels_enclose_their_identity(self):
        draw = random.Random(33)
        for table in TABLES:
            for sequence in [drawn_sequence(table, 10, draw), [draw.randrange(len(table))] * 10]:
                for level in range(level_of(table, evaluate(table, sequence)), len(levels(table))):
                    self.check_guarantees(table, sequence, level)


class BuildTest(unittest.TestCase):
    def check(self, table, sequence):
        tree = build_tree(table, sequence)
        self.assertIs(type(tree), list)
        self.assertIs(is_tree(tree), True)
        self.assertIsNone(first_tree_error(table, sequence, tree))
        self.assertLessEqual(tree_height(tree), height_bound(table))
        return tree

    def test_example(self):
        self.assertIsNone(first_tree_error(parity, [1, 1, 0, 1], build_tree(parity, [1, 1, 0, 1])))

    def test_one_element(self):
        for table in TABLES:
            for element in range(len(table)):
                self.assertEqual(build_tree(table, [element]), [element])

    def test_two_elements(self):
        for table in TABLES[::2]:
            for first in range(len(table)):
                for second in range(len(table)):
                    self.assertEqual(tree_height(self.check(table, [first, second])), 1)

    def test_sixty_elements(self):
        draw = random.Random(34)
        for table in TABLES:
            for sequence in sequences(table, 60, draw):
                self.check(table, sequence)

    def test_two_thousand_elements(self):
        draw = random.Random(35)
        for table in TABLES[::4] + drawn_tables(5, 36):
            for sequence in sequences(table, 2000, draw):
                self.check(table, sequence)

    def test_every_short_sequence_of_small_tables(self):
        for table in [table for table in TABLES if len(table) <= 3]:
            size = len(table)
            for length in range(1, 7):
                for code in range(size ** length):
                    self.check(table, [code // size ** place % size for place in range(length)])

    def test_the_greatest_tables(self):
        draw = random.Random(37)
        for rows in (cyclic_rows(16), lowest_rows(16), left_zero_rows(16), right_zero_rows(16), nilpotent_rows(16),
                     pair_rows(left_zero_rows(4), right_zero_rows(4)), pair_rows(cyclic_rows(4), lowest_rows(4)),
                     pair_rows(LOW, nilpotent_rows(8)), pair_rows(pair_rows(PARITY, PARITY), left_zero_rows(4))):
            for length in (1, 2, 60, 2000):
                for sequence in sequences(ProductTable(rows), length, draw):
                    self.check(ProductTable(rows), sequence)

    def test_long_constant_sequences_are_shallow(self):
        self.assertLessEqual(tree_height(build_tree(low, [1] * 2000)), 3)
        self.assertLessEqual(tree_height(build_tree(parity, [1] * 2000)), 6)
        self.assertLessEqual(tree_height(build_tree(ProductTable([[0]]), [0] * 2000)), 3)

    def test_equal_calls_give_equal_trees(self):
        draw = random.Random(38)
        for table in TABLES[::5]:
            sequence = drawn_sequence(table, 50, draw)
            tree = build_tree(table, sequence)
            same = build_tree(sequence=tuple(sequence), table=ProductTable(table.rows()))
            self.assertEqual(tree, same)
            self.assertIsNot(tree, build_tree(table, sequence))

    def test_renumbered_tables(self):
        draw = random.Random(39)
        for table in TABLES[::3]:
            order = list(range(len(table)))
            draw.shuffle(order)
            new = table.renumbered(order)
            sequence = drawn_sequence(new, 40, draw)
            tree = self.check(new, sequence)
            renamed = [order[node] if isinstance(node, int) else node for node in tree]
            self.assertIsNone(first_tree_error(table, [order[element] for element in sequence], renamed))


class ArgumentsTest(unittest.TestCase, RaiseCheck):
    def test_values_that_are_no_table(self):
        for wrong in values_that_are_no_table():
            with self.subTest(wrong=wrong):
                self.assert_raises_with(InvalidTable, "value", wrong, build_tree, wrong, [])
                for function in (cut_at_level, gap_labels):
                    self.assert_raises_with(InvalidTable, "value", wrong, function, wrong, [0], 0)
                    self.assert_raises_with(InvalidTable, "value", wrong, function, wrong, [], -1)
                    self.assert_raises_with(InvalidTable, "value", wrong, function, level=9, sequence=[], table=wrong)

    def test_values_that_are_no_sequence(self):
        for table in (low, ProductTable(lowest_rows(16))):
            for wrong in values_that_are_no_sequence(len(table)):
                with self.subTest(wrong=wrong):
                    self.assert_raises_with(InvalidSequence, "value", wrong, build_tree, table, wrong)
                    for function in (cut_at_level, gap_labels):
                        self.assert_raises_with(InvalidSequence, "value", wrong, function, table, wrong, 0)
                        self.assert_raises_with(InvalidSequence, "value", wrong, function, table, wrong, None)

    def test_elements_beyond_the_table(self):
        for wrong in values_that_are_no_element(3):
            for sequence in ([wrong, 0], [0, wrong], (1, 2, wrong)):
                self.assert_raises_with(InvalidSequence, "value", sequence, build_tree, switch, sequence)
                self.assert_raises_with(InvalidSequence, "value", sequence, cut_at_level, switch, sequence, 5)

    def test_sequences_are_not_changed_and_lists_are_new(self):
        sequence = [1, 0, 1, 1, 0]
        for function in (lambda: build_tree(low, sequence), lambda: cut_at_level(low, sequence, 1)[0],
                         lambda: gap_labels(low, sequence, 1)):
            first = function()
            kept = list(first)
            first.append(None)
            self.assertEqual(function(), kept)
            self.assertEqual(sequence, [1, 0, 1, 1, 0])
        single = [1]
        self.assertIsNot(build_tree(low, single), single)
        self.assertEqual(tree_leaves(build_tree(low, sequence)), sequence)
