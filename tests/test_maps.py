"""Promises [111] to [115]: homomorphisms and pairs."""

import itertools
import random
import unittest

from producttrees.building import build_tree
from producttrees.coloring import first_color_error, gap_colors
from producttrees.errors import (InvalidMap, InvalidSequence, InvalidTable, InvalidTree, NotHomomorphism, TooMany)
from producttrees.heights import height_table, minimal_tree
from producttrees.maps import first_homomorphism_error, map_sequence, map_tree, pair_table
from producttrees.tables import ProductTable
from producttrees.trees import first_tree_error, tree_height, tree_spans
from tests.helpers import (LEFT_ZERO, LOW, PARITY, SWITCH, RaiseCheck, alternating, cyclic_rows, drawn_sequence,
                           drawn_tree, left_deep, lowest_rows, pair_rows, reordered, right_deep, sequences,
                           single_chain, values_that_are_no_element, values_that_are_no_sequence,
                           values_that_are_no_table, values_that_are_no_tree, various_tables, wide)

parity = ProductTable(PARITY)
low = ProductTable(LOW)
switch = ProductTable(SWITCH)
left_zero = ProductTable(LEFT_ZERO)
one = ProductTable([[0]])
TABLES = various_tables()


def expected_error(source, target, images):
    for a, b in itertools.product(range(len(source)), repeat=2):
        if images[source.product(a, b)] != target.product(images[a], images[b]):
            return (a, b)
    return None


def homomorphisms(table, draw):
    """Return homomorphisms from the table, as pairs of a target and the images: the identity, the constant maps, a
    renumbering and an inclusion, and a map to a table with pairs of equal components."""
    size = len(table)
    order = draw.sample(range(size), size)
    found = [(table, list(range(size))), (one, [0] * size)]
    found.append((table.renumbered(order), [order.index(element) for element in range(size)]))
    found += [(table, [idempotent] * size) for idempotent in table.idempotents()[-2:]]
    if size ** 2 <= 16:
        found.append((pair_table(table, table)[0], [a * size + a for a in range(size)]))
    return found


def sources_and_homomorphisms(seed):
    """Return triples of a source, a target and images of all kinds."""
    draw = random.Random(seed)
    cases = [(switch, low, [0, 1, 1])]
    for table in TABLES[::3]:
        cases += [(table, target, images) for target, images in homomorphisms(table, draw)]
        part, originals = table.subtable([draw.randrange(len(table))])
        cases.append((part, table, originals))
    for first, second in ((parity, low), (switch, left_zero), (low, ProductTable(cyclic_rows(8)))):
        both, firsts, seconds = pair_table(first, second)
        cases += [(both, first, firsts), (both, second, seconds)]
    # Remainders of remainders, and lowest elements below a limit.
    cases.append((ProductTable(cyclic_rows(12)), ProductTable(cyclic_rows(4)), [a % 4 for a in range(12)]))
    cases.append((ProductTable(lowest_rows(9)), ProductTable(lowest_rows(3)), [min(a, 2) for a in range(9)]))
    return cases


class FirstErrorTest(unittest.TestCase, RaiseCheck):
    def test_example(self):
        results = [first_homomorphism_error(switch, low, [0, 1, 1]), first_homomorphism_error(parity, low, [1, 0])]
        self.assertEqual(results, [None, (1, 1)])

    def test_homomorphisms(self):
        for source, target, images in sources_and_homomorphisms(121):
            for form in (images, tuple(images)):
                self.assertIsNone(first_homomorphism_error(source, target, form))
            self.assertIsNone(first_homomorphism_error(images=images, target=target, source=source))

    def test_all_maps_of_small_tables(self):
        tables = [parity, low, switch, left_zero, one, ProductTable(cyclic_rows(3))]
        found = set()
        for source, target in itertools.product(tables, repeat=2):
            for images in itertools.product(range(len(target)), repeat=len(source)):
                expected = expected_error(source, target, images)
                result = first_homomorphism_error(source, target, list(images))
                self.assertEqual(result, expected)
                found.add(result)
        self.assertIn(None, found)
        self.assertGreater(len(found), 6)

    def test_one_or_two_wrong_images(self):
        draw = random.Random(122)
        found = set()
        for source, target, images in sources_and_homomorphisms(123):
            for count in (1, 2):
                changed = list(images)
                for place in draw.sample(range(len(images)), min(count, len(images))):
                    changed[place] = draw.randrange(len(target))
                expected = expected_error(source, target, changed)
                self.assertEqual(first_homomorphism_error(source, target, changed), expected)
                found.add(expected)
        self.assertGreater(len(found), 8)

    def test_the_first_pair(self):
        self.assertEqual(first_homomorphism_error(ProductTable(cyclic_rows(4)), parity, [0, 1, 0, 0]), (1, 2))
        self.assertEqual(first_homomorphism_error(ProductTable(cyclic_rows(4)), parity, [1, 0, 1, 0]), (0, 0))
        self.assertEqual(first_homomorphism_error(left_zero, ProductTable([[0, 1], [0, 1]]), [0, 1]), (0, 1))
        result = first_homomorphism_error(parity, low, [1, 0])
        self.assertEqual([type(result), type(result[0])], [tuple, int])

    def test_values_that_are_no_map(self):
        wrongs = [None, True, 0, "", "011", {}, {0: 0, 1: 1, 2: 1}, low, [], (), [0], [0, 1], [0, 1, 1, 1], (0, 1),
                  [[0, 1, 1]], [0] * 16]
        for item in values_that_are_no_element(2):
            wrongs += [[item, 1, 1], [0, item, 1], [0, 1, item], (0, 1, item)]
        for wrong in wrongs:
            with self.subTest(wrong=wrong):
                self.assert_raises_with(InvalidMap, "value", wrong, first_homomorphism_error, switch, low, wrong)
                for sequence in ([2, 0], [], None):
                    self.assert_raises_with(InvalidMap, "value", wrong, map_sequence, switch, low, wrong, sequence)
                for tree in ([2], [5], None):
                    self.assert_raises_with(InvalidMap, "value", wrong, map_tree, switch, low, wrong, tree)

    def test_images_have_the_size_of_the_source_and_elements_of_the_target(self):
        self.assert_raises_with(InvalidMap, "value", wrong := [0, 1], first_homomorphism_error, switch, low, wrong)
        self.assert_raises_with(InvalidMap, "value", wrong := [0, 1, 2], first_homomorphism_error, low, switch, wrong)
        self.assert_raises_with(InvalidMap, "value", wrong := [0, 2], first_homomorphism_error, low, low, wrong)
        self.assertEqual(first_homomorphism_error(low, switch, [0, 2]), (1, 1))


class MapSequenceTest(unittest.TestCase, RaiseCheck):
    def test_example(self):
        self.assertEqual(map_sequence(switch, low, [0, 1, 1], [2, 0, 1]), [1, 0, 1])

    def test_images_of_sequences(self):
        draw = random.Random(124)
        for source, target, images in sources_and_homomorphisms(125):
            for length in (1, 2, 30):
                sequence = drawn_sequence(source, length, draw)
                result = map_sequence(source, target, images, sequence)
                self.assertEqual([type(result), result], [list, [images[element] for element in sequence]])
                self.assertEqual(map_sequence(sequence=tuple(sequence), images=tuple(images), target=target,
                                              source=source), result)

    def test_the_identity_gives_a_new_list(self):
        sequence, images = [1, 0, 2], [0, 1, 2]
        result = map_sequence(switch, switch, images, sequence)
        self.assertEqual(result, sequence)
        self.assertIsNot(result, sequence)
        result.append(0)
        self.assertEqual([sequence, images], [[1, 0, 2], [0, 1, 2]])

    def test_lengths(self):
        self.assertEqual(map_sequence(switch, low, [0, 1, 1], [2] * 2000), [1] * 2000)
        wrong = [2] * 2001
        self.assert_raises_with(InvalidSequence, "value", wrong, map_sequence, switch, low, [0, 1, 1], wrong)

    def test_values_that_are_no_sequence(self):
        for wrong in values_that_are_no_sequence(3):
            with self.subTest(wrong=wrong):
                for images in ([0, 1, 1], [1, 0, 0]):
                    self.assert_raises_with(InvalidSequence, "value", wrong, map_sequence, switch, low, images, wrong)

    def test_sequences_are_of_the_source(self):
        self.assertEqual(map_sequence(switch, low, [0, 1, 1], [2]), [1])
        self.assert_raises_with(InvalidSequence, "value", wrong := [2], map_sequence, low, switch, [0, 1], wrong)

    def test_maps_that_are_no_homomorphism(self):
        for source, target, images in ((parity, low, [1, 0]), (low, switch, [0, 2]), (switch, low, [1, 1, 0])):
            expected = first_homomorphism_error(source, target, images)
            self.assertIsNotNone(expected)
            self.assertEqual(self.raised(NotHomomorphism, map_sequence, source, target, images, [0]).pair, expected)
            self.assertEqual(self.raised(NotHomomorphism, map_tree, source, target, images, [0]).pair, expected)


class MapTreeTest(unittest.TestCase, RaiseCheck):
    def test_example(self):
        self.assertEqual(map_tree(switch, low, [0, 1, 1], [2, 1, (0, 1)]), [1, 1, (0, 1)])

    def check(self, source, target, images, tree):
        expected = [node if isinstance(node, tuple) else images[node] for node in tree]
        result = map_tree(source, target, images, tree)
        self.assertEqual([type(result), result], [list, expected])
        self.assertEqual({type(node) for node in result} - {int, tuple}, set())
        self.assertEqual(map_tree(tree=tuple(tree), images=tuple(images), target=target, source=source), expected)
        self.assertEqual(tree_spans(result), tree_spans(tree))
        return result

    def test_trees_of_all_kinds(self):
        draw = random.Random(126)
        for source, target, images in sources_and_homomorphisms(127):
            for size in (1, 2, 12):
                self.check(source, target, images, drawn_tree(draw, size, len(source) - 1))

    def test_nodes_of_one_or_no_child(self):
        self.check(switch, low, [0, 1, 1], [()])
        self.check(switch, low, [0, 1, 1], [2, (0,), (), (1, 2), (3,)])
        self.check(switch, low, [0, 1, 1], single_chain(4100))

    def test_great_and_deep_trees(self):
        draw = random.Random(128)
        for make in (left_deep, right_deep, alternating):
            for count in (2000, 2050):
                leaves = drawn_sequence(switch, count, draw)
                self.check(switch, low, [0, 1, 1], make(leaves))
                self.check(switch, switch.renumbered([2, 0, 1]), [1, 2, 0], reordered(make(leaves), draw))
        self.check(switch, low, [0, 1, 1], wide([2] * 4099))

    def test_the_identity_gives_a_new_list(self):
        tree = [1, 0, (0, 1)]
        result = map_tree(switch, switch, [0, 1, 2], tree)
        self.assertEqual(result, tree)
        self.assertIsNot(result, tree)
        result.append(0)
        self.assertEqual(tree, [1, 0, (0, 1)])

    def test_values_that_are_no_tree(self):
        for wrong in values_that_are_no_tree() + [wide([1] * 4100)]:
            with self.subTest(wrong=wrong):
                for images in ([0, 1, 1], [1, 0, 0]):
                    self.assert_raises_with(InvalidTree, "value", wrong, map_tree, switch, low, images, wrong)

    def test_leaves_that_are_no_element_of_the_source(self):
        for wrong in ([3], [15], [0, 3, (0, 1)], [0, 0, (0, 1), 5, (2, 3)], [3, (0,)], wide([0] * 99 + [3]), (3,)):
            for images in ([0, 1, 1], [1, 0, 0]):
                self.assert_raises_with(InvalidTree, "value", wrong, map_tree, switch, low, images, wrong)
        self.assertEqual(map_tree(switch, low, [0, 1, 1], [2]), [1])
        self.assert_raises_with(InvalidTree, "value", wrong := [2], map_tree, low, switch, [0, 1], wrong)
        circle = ProductTable(cyclic_rows(16))
        self.assertEqual(map_tree(circle, parity, [0, 1] * 8, [15, 14, (0, 1)]), [1, 0, (0, 1)])


class GuaranteeTest(unittest.TestCase):
    def test_mapped_trees_colors_and_heights(self):
        draw = random.Random(129)
        for source, target, images in sources_and_homomorphisms(130):
            for sequence in sequences(source, 25, draw)[::4]:
                mapped = map_sequence(source, target, images, sequence)
                for tree in (build_tree(source, sequence), minimal_tree(source, sequence)):
                    other = map_tree(source, target, images, tree)
                    self.assertIsNone(first_tree_error(target, mapped, other))
                    self.assertEqual(tree_height(other), tree_height(tree))
                self.assertIsNone(first_color_error(target, mapped, gap_colors(source, sequence)))
            short = drawn_sequence(source, 9, draw)
            before = height_table(source, short)
            after = height_table(target, map_sequence(source, target, images, short))
            for row, other in zip(before, after):
                self.assertTrue(all(height <= greater for height, greater in zip(other, row)))


class PairTableTest(unittest.TestCase, RaiseCheck):
    def test_example(self):
        table, firsts, seconds = pair_table(parity, low)
        self.assertEqual([table.rows(), firsts, seconds],
                         [[[0, 0, 2, 2], [0, 1, 2, 3], [2, 2, 0, 0], [2, 3, 0, 1]], [0, 0, 1, 1], [0, 1, 0, 1]])

    def test_all_pairs(self):
        for first, second in itertools.product(TABLES[::2], repeat=2):
            count = len(first) * len(second)
            if count > 16:
                continue
            result = pair_table(second=second, first=first)
            self.assertEqual([type(part) for part in result], [ProductTable, list, list])
            table, firsts, seconds = result
            self.assertEqual(table.rows(), pair_rows(first.rows(), second.rows()))
            self.assertEqual(firsts, [pair // len(second) for pair in range(count)])
            self.assertEqual(seconds, [pair % len(second) for pair in range(count)])
            for a, b in itertools.product(range(count), repeat=2):
                made = table.product(a, b)
                self.assertEqual(firsts[made], first.product(firsts[a], firsts[b]))
                self.assertEqual(seconds[made], second.product(seconds[a], seconds[b]))

    def test_numbers_of_pairs(self):
        def chain(size):
            return ProductTable(lowest_rows(size))

        for first, second in ((16, 1), (1, 16), (4, 4), (2, 8), (8, 2), (5, 3), (3, 5)):
            table, firsts, seconds = pair_table(chain(first), chain(second))
            self.assertEqual([len(table), len(firsts), len(seconds)], [first * second] * 3)
        for first, second in ((9, 2), (2, 9), (4, 5), (6, 3), (16, 16), (16, 2), (2, 16)):
            self.assertEqual(self.raised(TooMany, pair_table, chain(first), chain(second)).count, first * second)

    def test_new_lists(self):
        first = pair_table(parity, low)
        first[1].append(7)
        first[2].clear()
        self.assertEqual(pair_table(parity, low)[1:], ([0, 0, 1, 1], [0, 1, 0, 1]))


class ArgumentsTest(unittest.TestCase, RaiseCheck):
    def test_values_that_are_no_table(self):
        for wrong in values_that_are_no_table():
            with self.subTest(wrong=wrong):
                for source, target in ((wrong, low), (wrong, None), (wrong, [[1]]), (low, wrong)):
                    self.assert_raises_with(InvalidTable, "value", wrong, pair_table, source, target)
                    for images in ([0, 1], [], None):
                        arguments = (source, target, images)
                        self.assert_raises_with(InvalidTable, "value", wrong, first_homomorphism_error, *arguments)
                        self.assert_raises_with(InvalidTable, "value", wrong, map_sequence, *arguments, [])
                        self.assert_raises_with(InvalidTable, "value", wrong, map_tree, *arguments, [])
