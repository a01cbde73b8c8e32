"""What the document promises over several parts of the program at once: [3], [7], [8], [9]."""

import itertools
import random
import unittest

from producttrees.buffers import SequenceBuffer
from producttrees.building import build_tree
from producttrees.coloring import GapColorer, first_color_error, gap_colors
from producttrees.heights import first_height_error, height_table, minimal_tree
from producttrees.indexes import ProductIndex
from producttrees.levels import (cell_of, color_bound, find_factors, group_cells, height_bound, inverse, is_above,
                                 left_class, level_of, levels, right_class)
from producttrees.maps import first_homomorphism_error, map_sequence, map_tree, pair_table
from producttrees.runs import find_run, first_certificate_error, is_run, longest_run_free, run_free_bound, run_state
from producttrees.session import Session
from producttrees.tables import ProductTable
from producttrees.texts import (format_colors, format_sequence, format_table, format_transformations, format_tree,
                                parse_colors, parse_sequence, parse_table, parse_transformations, parse_tree)
from producttrees.transformations import Transformations
from producttrees.trees import evaluate, first_tree_error, join_trees, tree_height, tree_products
from tests.helpers import LOW, NULL, PARITY, drawn_letters, drawn_sequence, sequences, various_tables

TABLES = various_tables()


def renamed_tree(tree, names):
    return [names[node] if isinstance(node, int) else node for node in tree]


class RenumberedTest(unittest.TestCase):
    """A table and the one that [26] makes of it; names[a] is the new number of element a."""

    def cases(self, seed):
        draw = random.Random(seed)
        for table in TABLES:
            order = list(range(len(table)))
            draw.shuffle(order)
            yield table, table.renumbered(order), [order.index(element) for element in range(len(order))], draw

    def test_classes_and_cells(self):
        for table, new, names, _ in self.cases(101):
            for element in range(len(table)):
                for function in (right_class, left_class, cell_of):
                    renamed = sorted(names[other] for other in function(table, element))
                    self.assertEqual(function(new, names[element]), renamed)

    def test_group_cells_and_inverses(self):
        for table, new, names, _ in self.cases(102):
            cells = [(names[identity], sorted(names[one] for one in cell)) for identity, cell in group_cells(table)]
            self.assertEqual(group_cells(new), sorted(cells))
            for _, members in group_cells(table):
                for element in members:
                    self.assertEqual(inverse(new, names[element]), names[inverse(table, element)])

    def test_levels(self):
        for table, new, names, _ in self.cases(103):
            renamed = [sorted(names[element] for element in level) for level in levels(table)]
            self.assertEqual(sorted(levels(new)), sorted(renamed))
            for element in range(len(table)):
                members = levels(table)[level_of(table, element)]
                self.assertEqual(levels(new)[level_of(new, names[element])], sorted(names[one] for one in members))
                for other in range(len(table)):
                    self.assertIs(is_above(new, names[element], names[other]), is_above(table, element, other))
                    self.assertIs(find_factors(new, names[element], names[other]) is None,
                                  find_factors(table, element, other) is None)

    def test_bounds(self):
        for table, new, _, _ in self.cases(104):
            self.assertEqual([height_bound(new), color_bound(new)], [height_bound(table), color_bound(table)])

    def test_built_trees(self):
        for table, new, names, draw in self.cases(105):
            for sequence in sequences(table, 40, draw)[::3]:
                renamed = [names[element] for element in sequence]
                tree, other = build_tree(table, sequence), build_tree(new, renamed)
                self.assertIsNone(first_tree_error(new, renamed, renamed_tree(tree, names)))
                back = [names.index(name) for name in range(len(names))]
                self.assertIsNone(first_tree_error(table, sequence, renamed_tree(other, back)))
                self.assertLessEqual(tree_height(other), height_bound(table))

    def test_colors(self):
        for table, new, names, draw in self.cases(106):
            for sequence in sequences(table, 40, draw)[::3]:
                renamed = [names[element] for element in sequence]
                self.assertIsNone(first_color_error(new, renamed, gap_colors(table, sequence)))
                self.assertIsNone(first_color_error(table, sequence, gap_colors(new, renamed)))

    def test_minimal_heights(self):
        for table, new, names, draw in self.cases(107):
            sequence = drawn_sequence(table, 10, draw)
            renamed = [names[element] for element in sequence]
            self.assertIsNone(first_height_error(new, renamed, height_table(table, sequence)))
            tree = renamed_tree(minimal_tree(table, sequence), names)
            self.assertIsNone(first_tree_error(new, renamed, tree))

    def test_products(self):
        for table, new, names, draw in self.cases(108):
            sequence = drawn_sequence(table, 12, draw)
            renamed = [names[element] for element in sequence]
            index = ProductIndex(table, sequence)
            other = ProductIndex(new, renamed, tree=renamed_tree(index.tree(), names))
            for start in range(12):
                for stop in range(start + 1, 13):
                    self.assertEqual(other.product(start, stop), names[index.product(start, stop)])
                    self.assertEqual(other.parts(start, stop), index.parts(start, stop))


class TransformationsTest(unittest.TestCase):
    def test_states_that_the_ranges_of_a_word_reach(self):
        draw = random.Random(111)
        checked = 0
        while checked < 12:
            states = draw.randint(1, 5)
            letters = drawn_letters(states, draw.randint(1, 4), draw)
            try:
                maps = Transformations(states, letters)
            except ValueError:
                continue
            checked += 1
            word = [draw.choice(sorted(letters)) for _ in range(draw.choice((1, 20, 60)))]
            sequence = [maps.element_of([letter]) for letter in word]
            index = ProductIndex(maps.table(), sequence)
            buffer = SequenceBuffer(maps.table())
            buffer.append(sequence)
            for _ in range(40):
                start = draw.randrange(len(word))
                stop = draw.randint(start + 1, len(word))
                product = index.product(start, stop)
                self.assertEqual([evaluate(maps.table(), sequence, start, stop), buffer.product(start, stop),
                                  maps.element_of(word[start:stop])], [product] * 3)
                for state in range(states):
                    self.assertEqual(maps.run(state, word[start:stop]), maps.contents()[product][state])
            self.assertEqual(tree_products(maps.table(), index.tree())[-1], maps.element_of(word))


class TurnsTest(unittest.TestCase):
    def test_several_objects_of_one_table(self):
        draw = random.Random(112)
        for table in TABLES[::6]:
            first, second = drawn_sequence(table, 25, draw), drawn_sequence(table, 25, draw)
            one, other = GapColorer(table), GapColorer(table)
            buffers = [SequenceBuffer(table), SequenceBuffer(table)]
            indexes = [ProductIndex(table, first), ProductIndex(table, second)]
            for count in range(1, 26):
                one.push(first[count - 1])
                other.push(second[count - 1])
                for buffer, sequence in zip(buffers, (first, second)):
                    buffer.append([sequence[count - 1]])
                for index, sequence, buffer in zip(indexes, (first, second), buffers):
                    self.assertEqual(index.product(0, count), buffer.product())
                    self.assertEqual(buffer.product(), evaluate(table, sequence[:count]))
            self.assertEqual([one.colors(), other.colors()], [buffer.colors() for buffer in buffers])
            self.assertEqual([index.tree() for index in indexes], [buffer.tree() for buffer in buffers])

    def test_one_table_asked_for_everything_twice(self):
        # What another table is asked for in between changes no answer.
        draw = random.Random(113)
        for table, between in zip(TABLES[::5], TABLES[1::5]):
            sequence, other = drawn_sequence(table, 15, draw), drawn_sequence(between, 15, draw)
            first = self.everything(table, sequence)
            self.everything(between, other)
            self.assertEqual(self.everything(table, sequence), first)
            self.assertEqual(self.everything(ProductTable(table.rows()), tuple(sequence)), first)

    def everything(self, table, sequence):
        index = ProductIndex(table, sequence)
        buffer = SequenceBuffer(table)
        buffer.append(sequence)
        colorer = GapColorer(table)
        colors = [colorer.push(element) for element in sequence]
        size = len(table)
        answers = [height_table(table, sequence), minimal_tree(table, sequence), build_tree(table, sequence),
                   gap_colors(table, sequence), colors, colorer.state(), index.parts(2, 11), index.tree(),
                   buffer.tree(), buffer.colors(), buffer.product(3), levels(table), group_cells(table),
                   height_bound(table), color_bound(table), table.rows(), table.idempotents(), table.generated([0])]
        answers += [first_homomorphism_error(table, table, [0] * size), find_run(table, sequence, 2),
                    run_state(table, sequence), run_free_bound(table, 3), longest_run_free(table, [size - 1], 2),
                    format_table(table), format_sequence(sequence), format_tree(index.tree()), format_colors(colors)]
        session = Session()
        lines = ["table t " + " ".join(",".join(map(str, row)) for row in table.rows()), "buffer b t",
                 "append b " + " ".join(map(str, sequence)), "product b", "run b 2", "colors b", "height t"]
        return answers + session.execute_all(lines)


class PairsTest(unittest.TestCase):
    """A sequence of pairs, and the two sequences of their components."""

    def cases(self, seed):
        draw = random.Random(seed)
        small = [table for table in TABLES if len(table) <= 8]
        for first, second in zip(small, small[::-1]):
            if len(first) * len(second) <= 16:
                yield first, second, draw

    def test_trees_colors_indexes_and_heights(self):
        checked = 0
        for first, second, draw in self.cases(114):
            checked += 1
            table, firsts, seconds = pair_table(first, second)
            sequence = drawn_sequence(table, 20, draw)
            parts = [(first, firsts), (second, seconds)]
            index, tree = ProductIndex(table, sequence), minimal_tree(table, sequence)
            colors = gap_colors(table, sequence)
            heights = height_table(table, sequence)
            for part, images in parts:
                mapped = map_sequence(table, part, images, sequence)
                self.assertEqual(mapped, [images[pair] for pair in sequence])
                self.assertIsNone(first_color_error(part, mapped, colors))
                self.assertIsNone(first_tree_error(part, mapped, map_tree(table, part, images, tree)))
                other = ProductIndex(part, mapped, tree=map_tree(table, part, images, index.tree()))
                lower = height_table(part, mapped)
                for start in range(20):
                    for stop in range(start + 1, 21):
                        self.assertEqual(images[index.product(start, stop)], evaluate(part, mapped, start, stop))
                        self.assertEqual(other.product(start, stop), images[index.product(start, stop)])
                        self.assertEqual(other.parts(start, stop), index.parts(start, stop))
                        self.assertLessEqual(lower[start][stop - start - 1], heights[start][stop - start - 1])
        self.assertGreater(checked, 10)

    def test_runs_of_pairs_are_runs_of_both_components(self):
        found = 0
        for first, second, draw in self.cases(115):
            table, firsts, seconds = pair_table(first, second)
            sequence = drawn_sequence(table, 40, draw)
            run = find_run(table, sequence, 2)
            if run is not None:
                found += 1
                for part, images in ((first, firsts), (second, seconds)):
                    mapped = map_sequence(table, part, images, sequence)
                    self.assertIs(is_run(part, mapped, (images[run[0]], run[1])), True)
                    self.assertLessEqual(find_run(part, mapped, 2)[1][-1], run[1][-1])
        self.assertGreater(found, 5)


class WrittenTest(unittest.TestCase):
    def test_what_is_written_is_parsed_and_used_again(self):
        draw = random.Random(116)
        for table in TABLES[::2]:
            sequence = drawn_sequence(table, 90, draw)
            tree, colors = build_tree(table, sequence), gap_colors(table, sequence)
            other, same = parse_table(format_table(table)), parse_sequence(format_sequence(sequence))
            self.assertEqual([other, same], [table, sequence])
            index = ProductIndex(other, same, tree=parse_tree(format_tree(tree)))
            self.assertEqual(index.product(7, 80), evaluate(table, sequence, 7, 80))
            self.assertIsNone(first_color_error(other, same, parse_colors(format_colors(colors))))
            self.assertEqual(parse_colors(format_colors(gap_colors(other, same))), colors)

    def test_written_transformations(self):
        maps = Transformations(3, {"b": [1, 2, 0], "a": [0, 0, 0]})
        again = parse_transformations(format_transformations(maps))
        self.assertEqual([again.table(), again.word_of(4), again.run(2, ["b", "b"])],
                         [maps.table(), maps.word_of(4), maps.run(2, ["b", "b"])])


class PowersTest(unittest.TestCase):
    def test_powers_beside_products_of_sequences(self):
        for table in TABLES[::3]:
            for element in range(len(table)):
                for count in (1, 2, 3, 7, 40, 2000):
                    power = table.power(element, count)
                    self.assertEqual(evaluate(table, [element] * count), power)
                    if count <= 40:
                        index = ProductIndex(table, [element] * count)
                        self.assertEqual([index.product(0, count), tree_products(table, index.tree())[-1]], [power] * 2)

    def test_runs_of_equal_elements(self):
        # Of a constant sequence, the ranges with an idempotent product have a common least length.
        for table in TABLES[::3]:
            for element in range(len(table)):
                least = min(count for count in range(1, 17)
                            if table.power(table.power(element, count), 2) == table.power(element, count))
                self.assertIsNone(find_run(table, [element] * (2 * least - 1), 2))
                run = find_run(table, [element] * (2 * least), 2)
                self.assertEqual(run, (table.power(element, least), [0, least, 2 * least]))


class RunFreeTest(unittest.TestCase):
    def test_all_short_sequences_beside_the_longest_ones(self):
        for rows, count in ((PARITY, 2), (LOW, 2), (NULL, 2), (PARITY, 3)):
            table = ProductTable(rows)
            sequence, certificate = longest_run_free(table, [0, 1], count)
            remaining = dict(certificate)
            for length in range(1, len(sequence) + 2):
                free = 0
                for tried in itertools.product([0, 1], repeat=length):
                    if find_run(table, tried, count) is None:
                        free += 1
                        self.assertGreaterEqual(len(sequence) - length, 0)
                        self.assertLessEqual(remaining[run_state(table, tried)], len(sequence) - length)
                self.assertEqual(free > 0, length <= len(sequence))

    def test_renumbered_tables(self):
        draw = random.Random(117)
        for table in TABLES[::4]:
            order = draw.sample(range(len(table)), len(table))
            new = table.renumbered(order)
            alphabet = [draw.randrange(len(table))]
            renamed = [order.index(element) for element in alphabet]
            first, second = longest_run_free(table, alphabet, 3), longest_run_free(new, renamed, 3)
            self.assertEqual([len(part) for part in first], [len(part) for part in second])
            self.assertIsNone(first_certificate_error(new, renamed, 3, second[1]))
            self.assertEqual(run_free_bound(new, 3), run_free_bound(table, 3))
            self.assertLessEqual(len(first[0]), run_free_bound(table, 3))

    def test_runs_give_wide_nodes(self):
        # The ranges of a run may be the children of one node of a valid tree.
        draw = random.Random(118)
        for table in TABLES[::5]:
            sequence = drawn_sequence(table, 60, draw)
            run = find_run(table, sequence, 4)
            if run is not None:
                element, places = run
                trees = [build_tree(table, sequence[start:stop]) for start, stop in zip(places, places[1:])]
                joined = join_trees(trees)
                self.assertIsNone(first_tree_error(table, sequence[places[0]:places[-1]], joined))
                self.assertEqual(tree_products(table, joined)[-1], element)
