"""Promises [71] to [74]: minimal heights."""

import copy
import itertools
import random
import unittest

from producttrees.building import build_tree
from producttrees.errors import InvalidHeights, InvalidSequence, InvalidTable, TooMany
from producttrees.heights import first_height_error, height_table, minimal_height, minimal_tree
from producttrees.levels import height_bound
from producttrees.tables import ProductTable
from producttrees.trees import evaluate, first_tree_error, is_tree, join_trees, tree_height, tree_leaves
from tests.helpers import (LEFT_ZERO, LOW, NULL, PARITY, SWITCH, RaiseCheck, alternating, cyclic_rows, drawn_sequence,
                           left_deep, lowest_rows, nilpotent_rows, opposite, right_deep, sequences, symmetric_rows,
                           values_that_are_no_sequence, values_that_are_no_table, various_tables)

parity = ProductTable(PARITY)
low = ProductTable(LOW)
switch = ProductTable(SWITCH)
TABLES = various_tables()
SMALL = [ProductTable(rows) for rows in (PARITY, LOW, SWITCH, LEFT_ZERO, NULL, [[0]], nilpotent_rows(3),
                                         cyclic_rows(3))]
FUNCTIONS = (height_table, minimal_height, minimal_tree)


def expected_heights(table, sequence):
    """Return a dict from the ranges to the heights that [72] gives for them, by trying all ways to cut a range."""
    count = len(sequence)
    products = {(start, stop): evaluate(table, sequence, start, stop)
                for start in range(count) for stop in range(start + 1, count + 1)}
    heights = {(start, start + 1): 0 for start in range(count)}
    for length in range(2, count + 1):
        for start in range(count - length + 1):
            stop = start + length
            product = products[start, stop]
            ways = [[start, cut, stop] for cut in range(start + 1, stop)]
            if table.product(product, product) == product:
                # Only places up to which the product is right can be cuts of the second kind.
                places = [cut for cut in range(start + 1, stop) if products[start, cut] == product]
                for number in range(2, length):
                    ways += [[start, *cuts, stop] for cuts in itertools.combinations(places, number)
                             if all(products[pair] == product for pair in zip(cuts, [*cuts[1:], stop]))]
            heights[start, stop] = 1 + min(max(heights[pair] for pair in zip(way, way[1:])) for way in ways)
    return heights


def all_trees(leaves):
    """Return every tree of the leaves in which every inner node has two or more children."""
    if len(leaves) == 1:
        return [list(leaves)]
    trees = []
    for number in range(1, len(leaves)):
        for cuts in itertools.combinations(range(1, len(leaves)), number):
            bounds = [0, *cuts, len(leaves)]
            parts = [all_trees(leaves[start:stop]) for start, stop in zip(bounds, bounds[1:])]
            trees += [join_trees(choice) for choice in itertools.product(*parts)]
    return trees


class HeightTableTest(unittest.TestCase):
    def test_example(self):
        results = [height_table(low, [1, 1, 0]), minimal_height(parity, [1, 1, 1]),
                   minimal_height(parity, [1, 1, 1, 1, 1, 1])]
        self.assertEqual(results, [[[0, 1, 2], [0, 1], [0]], 2, 2])

    def check(self, table, sequence):
        heights = expected_heights(table, sequence)
        count = len(sequence)
        rows = [[heights[start, stop] for stop in range(start + 1, count + 1)] for start in range(count)]
        self.assertEqual(height_table(table, sequence), rows)
        self.assertEqual(minimal_height(table, sequence), rows[0][-1])
        self.assertIsNone(first_height_error(table, sequence, rows))
        return rows

    def test_every_range_by_its_definition(self):
        draw = random.Random(41)
        for table in TABLES[::2]:
            for length in (1, 2, 3, 5, 8):
                self.check(table, drawn_sequence(table, length, draw))
        for table in TABLES[::9] + SMALL:
            for length in (10, 11, 12):
                self.check(table, drawn_sequence(table, length, draw))

    def test_constant_and_periodic_sequences(self):
        draw = random.Random(42)
        for table in SMALL + [ProductTable(symmetric_rows()), ProductTable(lowest_rows(4))]:
            for length in (4, 9, 12):
                for sequence in sequences(table, length, draw):
                    self.check(table, sequence)

    def test_every_short_sequence_of_small_tables(self):
        for table in SMALL:
            for length in range(1, 5):
                for sequence in itertools.product(range(len(table)), repeat=length):
                    self.check(table, list(sequence))

    def test_a_node_of_many_children_and_pairs_beside_each_other(self):
        self.assertEqual(minimal_height(low, [1] * 40), 1)
        self.assertEqual(minimal_height(low, [1] * 39 + [0]), 2)
        self.assertEqual(minimal_height(parity, [1] * 40), 2)
        self.assertEqual(minimal_height(parity, [1] * 39), 3)
        self.assertEqual(minimal_height(parity, [0] * 40), 1)
        self.assertEqual(height_table(parity, [0, 1, 1, 0])[0], [0, 1, 2, 2])
        self.assertEqual([minimal_height(low, [1]), minimal_height(low, [0, 1])], [0, 1])

    def test_two_children_are_enough_whatever_their_products(self):
        # No product of two elements is idempotent below the last one.
        lengths = ProductTable(nilpotent_rows(16))
        self.assertEqual(height_table(lengths, [0] * 15)[0], [0, 1, 2, 2, 3, 3, 3, 3, 4, 4, 4, 4, 4, 4, 4])

    def test_forty_elements(self):
        draw = random.Random(43)
        for table in TABLES[::6]:
            for sequence in sequences(table, 40, draw)[::3]:
                rows = height_table(table, sequence)
                self.assertEqual([len(row) for row in rows], list(range(40, 0, -1)))
                self.assertEqual([row[0] for row in rows], [0] * 40)
                self.assertEqual(minimal_height(table, sequence), rows[0][-1])
                self.assertIsNone(first_height_error(table, sequence, rows))

    def test_kinds_of_results_and_names(self):
        for sequence in ([1, 0, 1], (1, 0, 1)):
            rows = height_table(low, sequence)
            self.assertEqual([type(rows), type(rows[0]), type(rows[0][0])], [list, list, int])
            self.assertEqual(height_table(sequence=sequence, table=low), rows)
            self.assertIs(type(minimal_height(sequence=sequence, table=low)), int)
            self.assertIsNone(first_height_error(heights=rows, sequence=sequence, table=low))
            self.assertEqual(minimal_tree(sequence=sequence, table=low), minimal_tree(low, [1, 0, 1]))

    def test_new_lists_and_no_changes(self):
        sequence = [1, 1, 0, 1]
        rows = height_table(low, sequence)
        kept = copy.deepcopy(rows)
        rows[0][1] = 9
        rows[1].append(9)
        rows.pop()
        self.assertEqual(height_table(low, sequence), kept)
        self.assertEqual(sequence, [1, 1, 0, 1])
        passed = copy.deepcopy(kept)
        first_height_error(low, sequence, passed)
        self.assertEqual(passed, kept)


class RelationsTest(unittest.TestCase):
    """What the heights of one sequence have to do with those of another one."""

    def test_ranges(self):
        draw = random.Random(44)
        for table in TABLES[::5]:
            sequence = drawn_sequence(table, 14, draw)
            rows = height_table(table, sequence)
            for start, stop in ((0, 9), (3, 11), (5, 14), (13, 14)):
                cut = [row[:stop - start - place] for place, row in enumerate(rows[start:stop])]
                self.assertEqual(height_table(table, sequence[start:stop]), cut)

    def test_renumbered_tables(self):
        draw = random.Random(45)
        for table in TABLES[::3]:
            order = list(range(len(table)))
            draw.shuffle(order)
            sequence = drawn_sequence(table, 16, draw)
            renamed = [order.index(element) for element in sequence]
            self.assertEqual(height_table(table.renumbered(order), renamed), height_table(table, sequence))

    def test_subtables(self):
        draw = random.Random(46)
        for table in TABLES[::3]:
            sequence = drawn_sequence(table, 6, draw) * 2
            part, originals = table.subtable(sequence)
            renamed = [originals.index(element) for element in sequence]
            self.assertEqual(height_table(part, renamed), height_table(table, sequence))

    def test_mirrored_sequences(self):
        draw = random.Random(47)
        for table in TABLES[::3]:
            sequence = drawn_sequence(table, 13, draw)
            rows = height_table(table, sequence)
            mirrored = height_table(opposite(table), sequence[::-1])
            for start in range(13):
                for stop in range(start + 1, 14):
                    self.assertEqual(mirrored[13 - stop][stop - start - 1], rows[start][stop - start - 1])

    def test_two_sequences_one_after_the_other(self):
        draw = random.Random(48)
        for table in TABLES[::3]:
            first, second = drawn_sequence(table, 8, draw), drawn_sequence(table, 7, draw)
            both = minimal_height(table, first + second)
            higher = max(minimal_height(table, first), minimal_height(table, second))
            self.assertLessEqual(both, 1 + higher)
            rows = height_table(table, first + second)
            self.assertEqual([row[:8 - place] for place, row in enumerate(rows[:8])], height_table(table, first))
            self.assertEqual(rows[8:], height_table(table, second))

    def test_built_trees_and_the_bound(self):
        draw = random.Random(49)
        for table in TABLES[::2]:
            for length in (1, 2, 7, 40):
                sequence = drawn_sequence(table, length, draw)
                height = minimal_height(table, sequence)
                self.assertLessEqual(height, tree_height(build_tree(table, sequence)))
                self.assertLessEqual(height, height_bound(table))

    def test_no_valid_tree_is_lower(self):
        draw = random.Random(50)
        for table in SMALL + TABLES[::9]:
            for length in (1, 2, 3, 4, 5, 6):
                sequence = drawn_sequence(table, length, draw)
                valid = [tree for tree in all_trees(sequence) if first_tree_error(table, sequence, tree) is None]
                self.assertEqual(min(map(tree_height, valid)), minimal_height(table, sequence))

    def test_told_trees_are_no_lower(self):
        draw = random.Random(51)
        for table in TABLES[::4]:
            sequence = drawn_sequence(table, 30, draw)
            for make in (left_deep, right_deep, alternating):
                self.assertLessEqual(minimal_height(table, sequence), tree_height(make(sequence)))


class FirstErrorTest(unittest.TestCase, RaiseCheck):
    def test_example(self):
        results = [first_height_error(low, [1, 1], [[0, 1], [0]]), first_height_error(low, [1, 1], [[0, 2], [0]])]
        self.assertEqual(results, [None, (0, 2)])

    def wrong_at(self, rows, *ranges):
        """Return the rows with wrong items for these ranges."""
        changed = copy.deepcopy(rows)
        for start, stop in ranges:
            changed[start][stop - start - 1] += 1 if (start + stop) % 2 or rows[start][stop - start - 1] == 0 else -1
        return changed

    def test_one_wrong_item(self):
        sequence = [1, 0, 1, 1, 0, 1]
        for table in (low, parity):
            rows = height_table(table, sequence)
            for start in range(6):
                for stop in range(start + 1, 7):
                    self.assertEqual(first_height_error(table, sequence, self.wrong_at(rows, (start, stop))),
                                     (start, stop))

    def test_two_and_three_wrong_items(self):
        sequence = [1, 0, 1, 1, 0, 1]
        rows = height_table(low, sequence)
        ranges = [(start, stop) for start in range(6) for stop in range(start + 1, 7)]
        for wrong in list(itertools.combinations(ranges, 2)) + list(itertools.combinations(ranges, 3))[::7]:
            expected = min(wrong, key=lambda bounds: (bounds[1] - bounds[0], bounds[0]))
            result = first_height_error(low, sequence, self.wrong_at(rows, *wrong))
            self.assertEqual(result, expected)
            self.assertEqual([type(result), type(result[0])], [tuple, int])

    def test_tuples_of_rows(self):
        rows = height_table(low, [1, 0, 1])
        for form in (tuple(rows), [tuple(row) for row in rows], tuple(tuple(row) for row in rows)):
            self.assertIsNone(first_height_error(low, (1, 0, 1), form))
        self.assertEqual(first_height_error(low, [1, 0, 1], ((0, 1, 2), (0, 2), (0,))), (1, 3))

    def test_great_numbers(self):
        self.assertEqual(first_height_error(low, [1, 1], [[0, 10 ** 29], [0]]), (0, 2))
        self.assertEqual(first_height_error(low, [1, 1], [[0, 1], [10 ** 29]]), (1, 2))

    def test_heights_of_another_sequence(self):
        draw = random.Random(52)
        found = set()
        for table in TABLES[::3]:
            first, second = drawn_sequence(table, 9, draw), drawn_sequence(table, 9, draw)
            mine, other = height_table(table, first), height_table(table, second)
            wrong = [(stop - start, start) for start in range(9) for stop in range(start + 1, 10)
                     if mine[start][stop - start - 1] != other[start][stop - start - 1]]
            expected = min(wrong, default=None)
            result = first_height_error(table, first, other)
            self.assertEqual(result, expected and (expected[1], expected[1] + expected[0]))
            found.add(result is None)
        self.assertEqual(found, {True, False})

    def test_values_without_the_form(self):
        rows = height_table(low, [1, 1, 0])
        wrongs = [None, True, 0, "", "012", {}, {0: [0, 1, 2], 1: [0, 1], 2: [0]}, [], (), low, rows[:2], rows[1:],
                  rows + [[0]], rows + [[]], [[0, 1, 2], [0, 1], []], [[0, 1], [0], []], [[0, 1, 2], [0, 1], [0, 0]],
                  [[0, 1], [0, 1], [0]], [[0, 1, 2, 2], [0, 1], [0]], [[0], [0, 1], [0, 1, 2]], [0, 1, 2],
                  [[0, 1, 2], [0, 1], 0], [[0, 1, 2], None, [0]], ["012", [0, 1], [0]],
                  [{0: 0, 1: 1, 2: 2}, [0, 1], [0]], [[[0, 1, 2], [0, 1], [0]]]]
        for wrong in wrongs:
            with self.subTest(wrong=wrong):
                self.assert_raises_with(InvalidHeights, "value", wrong, first_height_error, low, [1, 1, 0], wrong)

    def test_items_that_are_no_heights(self):
        rows = height_table(low, [1, 1, 0])
        for start, row in enumerate(rows):
            for place in range(len(row)):
                for item in (-1, -10 ** 29, True, False, None, "0", "", [0], (0,), {}, low):
                    wrong = copy.deepcopy(rows)
                    wrong[start][place] = item
                    self.assert_raises_with(InvalidHeights, "value", wrong, first_height_error, low, [1, 1, 0], wrong)

    def test_a_wrong_form_comes_before_wrong_heights(self):
        wrong = [[5, 7, 9], [3, -1], [4]]
        self.assert_raises_with(InvalidHeights, "value", wrong, first_height_error, low, [1, 1, 0], wrong)


class MinimalTreeTest(unittest.TestCase):
    def check(self, table, sequence):
        tree = minimal_tree(table, sequence)
        self.assertIs(type(tree), list)
        self.assertIs(is_tree(tree), True)
        self.assertIsNone(first_tree_error(table, sequence, tree))
        self.assertEqual(tree_height(tree), minimal_height(table, sequence))
        return tree

    def test_example(self):
        tree = minimal_tree(low, [1, 1, 1])
        self.assertEqual([first_tree_error(low, [1, 1, 1], tree), tree_height(tree)], [None, 1])

    def test_sequences_of_all_kinds(self):
        draw = random.Random(53)
        for table in TABLES[::3]:
            for length in (1, 2, 3, 12):
                for sequence in sequences(table, length, draw)[::2]:
                    self.check(table, sequence)
        for table in TABLES[::12]:
            for sequence in sequences(table, 40, draw):
                self.check(table, sequence)

    def test_every_short_sequence_of_small_tables(self):
        for table in SMALL:
            for length in range(1, 6):
                for sequence in itertools.product(range(len(table)), repeat=length):
                    self.check(table, list(sequence))

    def test_single_elements(self):
        single = [1]
        tree = minimal_tree(low, single)
        self.assertEqual(tree, [1])
        tree.append(0)
        self.assertEqual([single, minimal_tree(low, single)], [[1], [1]])

    def test_equal_calls_give_equal_trees(self):
        draw = random.Random(54)
        for table in TABLES[::8]:
            sequence = drawn_sequence(table, 20, draw)
            tree = minimal_tree(table, sequence)
            self.assertEqual(minimal_tree(ProductTable(table.rows()), tuple(sequence)), tree)
            self.assertIsNot(minimal_tree(table, sequence), tree)
            self.assertEqual(tree_leaves(tree), sequence)


class ArgumentsTest(unittest.TestCase, RaiseCheck):
    def test_values_that_are_no_table(self):
        for wrong in values_that_are_no_table():
            with self.subTest(wrong=wrong):
                for function in FUNCTIONS:
                    for sequence in ([0], [], None, [0] * 41, [0] * 2001):
                        self.assert_raises_with(InvalidTable, "value", wrong, function, wrong, sequence)
                for sequence, heights in (([0], [[0]]), ([], None), ([0] * 41, [])):
                    self.assert_raises_with(InvalidTable, "value", wrong, first_height_error, wrong, sequence, heights)

    def test_values_that_are_no_sequence(self):
        for table in (low, ProductTable(lowest_rows(16))):
            for wrong in values_that_are_no_sequence(len(table)):
                with self.subTest(wrong=wrong):
                    for function in FUNCTIONS:
                        self.assert_raises_with(InvalidSequence, "value", wrong, function, table, wrong)
                    for held in ([[0]], None, []):
                        self.assert_raises_with(InvalidSequence, "value", wrong, first_height_error, table, wrong, held)

    def test_lengths(self):
        for function in FUNCTIONS:
            self.assertIsNotNone(function(low, [1] * 40))
            for length in (41, 42, 110, 1999, 2000):
                self.assertEqual(self.raised(TooMany, function, low, [1] * length).count, length)
                self.assertEqual(self.raised(TooMany, function, low, (1,) * length).count, length)
            self.assert_raises_with(InvalidSequence, "value", wrong := [1] * 2001, function, low, wrong)
            self.assert_raises_with(InvalidSequence, "value", wrong := [1] * 40 + [2], function, low, wrong)

    def test_the_form_of_the_heights_comes_before_the_length(self):
        sequence = [1] * 41
        heights = [[0] + [1] * place for place in range(40, -1, -1)]
        self.assertEqual(self.raised(TooMany, first_height_error, low, sequence, heights).count, 41)
        heights[40][0] = 7
        self.assertEqual(self.raised(TooMany, first_height_error, low, sequence, heights).count, 41)
        for wrong in (heights[1:], heights + [[]], None, heights[:40] + [[-1]], heights[:40] + [[]]):
            self.assert_raises_with(InvalidHeights, "value", wrong, first_height_error, low, sequence, wrong)
        rows = height_table(low, [1] * 40)
        self.assert_raises_with(InvalidHeights, "value", rows, first_height_error, low, sequence, rows)
        self.assertIsNone(first_height_error(low, [1] * 40, rows))
