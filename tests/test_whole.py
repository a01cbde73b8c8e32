"""What the document promises over several parts of the program at once: [3], [7], [8], [9]."""

import random
import unittest

from producttrees.buffers import SequenceBuffer
from producttrees.building import build_tree
from producttrees.coloring import GapColorer, first_color_error, gap_colors
from producttrees.heights import first_height_error, height_table, minimal_tree
from producttrees.indexes import ProductIndex
from producttrees.levels import (cell_of, color_bound, find_factors, group_cells, height_bound, inverse, is_above,
                                 left_class, level_of, levels, right_class)
from producttrees.tables import ProductTable
from producttrees.transformations import Transformations
from producttrees.trees import evaluate, first_tree_error, tree_height, tree_products
from tests.helpers import drawn_letters, drawn_sequence, sequences, various_tables

TABLES = various_tables()


def renamed_tree(tree, names):
    return [names[node] if isinstance(node, int) else node for node in tree]


class RenumberedTest(unittest.TestCase):
    """A table and the one that [26] makes of it; names[a] is the new number of element a."""

    def cases(self, seed):
        draw = random.Random(seed)
        for table in TABLES:
            order = list(range(len(table)))
            draw.shuffle(order)
            yield table, table.renumbered(order), [order.index(element) for element in range(len(order))], draw

    def test_classes_and_cells(self):
        for table, new, names, _ in self.cases(101):
            for element in range(len(table)):
                for function in (right_class, left_class, cell_of):
                    renamed = sorted(names[other] for other in function(table, element))
                    self.assertEqual(function(new, names[element]), renamed)

    def test_group_cells_and_inverses(self):
        for table, new, names, _ in self.cases(102):
            cells = [(names[identity], sorted(names[one] for one in cell)) for identity, cell in group_cells(table)]
            self.assertEqual(group_cells(new), sorted(cells))
            for _, members in group_cells(table):
                for element in members:
                    self.assertEqual(inverse(new, names[element]), names[inverse(table, element)])

    def test_levels(self):
        for table, new, names, _ in self.cases(103):
            renamed = [sorted(names[element] for element in level) for level in levels(table)]
            self.assertEqual(sorted(levels(new)), sorted(renamed))
            for element in range(len(table)):
                members = levels(table)[level_of(table, element)]
                self.assertEqual(levels(new)[level_of(new, names[element])], sorted(names[one] for one in members))
                for other in range(len(table)):
                    self.assertIs(is_above(new, names[element], names[other]), is_above(table, element, other))
                    self.assertIs(find_factors(new, names[element], names[other]) is None,
                                  find_factors(table, element, other) is None)

    def test_bounds(self):
        for table, new, _, _ in self.cases(104):
            self.assertEqual([height_bound(new), color_bound(new)], [height_bound(table), color_bound(table)])

    def test_built_trees(self):
        for table, new, names, draw in self.cases(105):
            for sequence in sequences(table, 40, draw)[::3]:
                renamed = [names[element] for element in sequence]
                tree, other = build_tree(table, sequence), build_tree(new, renamed)
                self.assertIsNone(first_tree_error(new, renamed, renamed_tree(tree, names)))
                back = [names.index(name) for name in range(len(names))]
                self.assertIsNone(first_tree_error(table, sequence, renamed_tree(other, back)))
                self.assertLessEqual(tree_height(other), height_bound(table))

    def test_colors(self):
        for table, new, names, draw in self.cases(106):
            for sequence in sequences(table, 40, draw)[::3]:
                renamed = [names[element] for element in sequence]
                self.assertIsNone(first_color_error(new, renamed, gap_colors(table, sequence)))
                self.assertIsNone(first_color_error(table, sequence, gap_colors(new, renamed)))

    def test_minimal_heights(self):
        for table, new, names, draw in self.cases(107):
            sequence = drawn_sequence(table, 10, draw)
            renamed = [names[element] for element in sequence]
            self.assertIsNone(first_height_error(new, renamed, height_table(table, sequence)))
            tree = renamed_tree(minimal_tree(table, sequence), names)
            self.assertIsNone(first_tree_error(new, renamed, tree))

    def test_products(self):
        for table, new, names, draw in self.cases(108):
            sequence = drawn_sequence(table, 12, draw)
            renamed = [names[element] for element in sequence]
            index = ProductIndex(table, sequence)
            other = ProductIndex(new, renamed, tree=renamed_tree(index.tree(), names))
            for start in range(12):
                for stop in range(start + 1, 13):
                    self.assertEqual(other.product(start, stop), names[index.product(start, stop)])
                    self.assertEqual(other.parts(start, stop), index.parts(start, stop))


class TransformationsTest(unittest.TestCase):
    def test_states_that_the_ranges_of_a_word_reach(self):
        draw = random.Random(111)
        checked = 0
        while checked < 12:
            states = draw.randint(1, 5)
            letters = drawn_letters(states, draw.randint(1, 4), draw)
            try:
                maps = Transformations(states, letters)
            except ValueError:
                continue
            checked += 1
            word = [draw.choice(sorted(letters)) for _ in range(draw.choice((1, 20, 60)))]
            sequence = [maps.element_of([letter]) for letter in word]
            index = ProductIndex(maps.table(), sequence)
            buffer = SequenceBuffer(maps.table())
            buffer.append(sequence)
            for _ in range(40):
                start = draw.randrange(len(word))
                stop = draw.randint(start + 1, len(word))
                product = index.product(start, stop)
                self.assertEqual([evaluate(maps.table(), sequence, start, stop), buffer.product(start, stop),
                                  maps.element_of(word[start:stop])], [product] * 3)
                for state in range(states):
                    self.assertEqual(maps.run(state, word[start:stop]), maps.contents()[product][state])
            self.assertEqual(tree_products(maps.table(), index.tree())[-1], maps.element_of(word))


class TurnsTest(unittest.TestCase):
    def test_several_objects_of_one_table(self):
        draw = random.Random(112)
        for table in TABLES[::6]:
            first, second = drawn_sequence(table, 25, draw), drawn_sequence(table, 25, draw)
            one, other = GapColorer(table), GapColorer(table)
            buffers = [SequenceBuffer(table), SequenceBuffer(table)]
            indexes = [ProductIndex(table, first), ProductIndex(table, second)]
            for count in range(1, 26):
                one.push(first[count - 1])
                other.push(second[count - 1])
                for buffer, sequence in zip(buffers, (first, second)):
                    buffer.append([sequence[count - 1]])
                for index, sequence, buffer in zip(indexes, (first, second), buffers):
                    self.assertEqual(index.product(0, count), buffer.product())
                    self.assertEqual(buffer.product(), evaluate(table, sequence[:count]))
            self.assertEqual([one.colors(), other.colors()], [buffer.colors() for buffer in buffers])
            self.assertEqual([index.tree() for index in indexes], [buffer.tree() for buffer in buffers])

    def test_one_table_asked_for_everything_twice(self):
        # What another table is asked for in between changes no answer.
        draw = random.Random(113)
        for table, between in zip(TABLES[::5], TABLES[1::5]):
            sequence, other = drawn_sequence(table, 15, draw), drawn_sequence(between, 15, draw)
            first = self.everything(table, sequence)
            self.everything(between, other)
            self.assertEqual(self.everything(table, sequence), first)
            self.assertEqual(self.everything(ProductTable(table.rows()), tuple(sequence)), first)

    def everything(self, table, sequence):
        index = ProductIndex(table, sequence)
        buffer = SequenceBuffer(table)
        buffer.append(sequence)
        colorer = GapColorer(table)
        colors = [colorer.push(element) for element in sequence]
        return [height_table(table, sequence), minimal_tree(table, sequence), build_tree(table, sequence),
                gap_colors(table, sequence), colors, colorer.state(), index.parts(2, 11), index.tree(), buffer.tree(),
                buffer.colors(), buffer.product(3), levels(table), group_cells(table), height_bound(table)]
