"""Promises [91] to [93]: gap colors."""

import itertools
import random
import unittest

from producttrees.coloring import GapColorer, first_color_error, gap_colors
from producttrees.errors import InvalidColors, InvalidElement, InvalidSequence, InvalidTable, TooMany
from producttrees.levels import color_bound
from producttrees.tables import ProductTable
from producttrees.trees import evaluate
from tests.helpers import (LEFT_ZERO, LOW, NULL, PARITY, SWITCH, RaiseCheck, cyclic_rows, drawn_sequence, folded,
                           lowest_rows, matrix_rows, nilpotent_rows, opposite, pair_rows, right_zero_rows, sequences,
                           values_that_are_no_element, values_that_are_no_integer, values_that_are_no_sequence,
                           values_that_are_no_table, various_tables)

parity = ProductTable(PARITY)
low = ProductTable(LOW)
switch = ProductTable(SWITCH)
left_zero = ProductTable(LEFT_ZERO)
TABLES = various_tables()


def connected(colors, x, y):
    """Tell whether two gaps are of one color and connected, by the words of [92]."""
    first, last = min(x, y), max(x, y)
    between = colors[first:last - 1]
    return colors[x - 1] == colors[y - 1] and all(color >= colors[x - 1] for color in between)


def expected_error(table, sequence, colors):
    """Return the first tuple (x, y, u, v) for which [92] does not hold, by trying all of them."""
    gaps = range(1, len(sequence) + 1)
    for x, y in itertools.combinations(gaps, 2):
        if connected(colors, x, y):
            e = evaluate(table, sequence, x, y)
            for u, v in itertools.combinations(gaps, 2):
                if connected(colors, x, u) and connected(colors, u, v):
                    if table.product(e, evaluate(table, sequence, u, v)) != e:
                        return (x, y, u, v)
    return None


def are_correct(table, sequence, colors):
    """Tell whether the colors are correct; fast enough for long sequences."""
    rows = table.rows()
    groups, going = [], {}
    for gap, color in enumerate(colors, 1):
        going = {other: group for other, group in going.items() if other <= color}
        if color not in going:
            going[color] = []
            groups.append(going[color])
        going[color].append(gap)
    for group in groups:
        # All ranges are made of those between neighbors, so it is enough that these and their products have the rule.
        made = {folded(table, sequence[x:y]) for x, y in zip(group, group[1:])}
        while True:
            more = made | {rows[e][f] for e in made for f in made}
            if more == made:
                break
            made = more
        if any(rows[e][f] != e for e in made for f in made):
            return False
    return True


class GapColorsTest(unittest.TestCase):
    def check(self, table, sequence):
        colors = gap_colors(table, sequence)
        self.assertEqual([type(colors), len(colors)], [list, len(sequence)])
        self.assertEqual({type(color) for color in colors}, {int})
        self.assertGreaterEqual(min(colors), 1)
        self.assertLessEqual(max(colors), color_bound(table))
        if len(sequence) <= 200:
            self.assertIsNone(first_color_error(table, sequence, colors))
        return colors

    def test_by_the_words_of_the_definition(self):
        draw = random.Random(71)
        for table in TABLES[::3]:
            for sequence in sequences(table, 12, draw)[::2]:
                self.assertIsNone(expected_error(table, sequence, self.check(table, sequence)))

    def test_every_short_sequence_of_small_tables(self):
        for table in [table for table in TABLES if len(table) <= 3]:
            for length in range(1, 6):
                for sequence in itertools.product(range(len(table)), repeat=length):
                    colors = self.check(table, list(sequence))
                    self.assertIsNone(expected_error(table, sequence, colors))

    def test_one_to_sixty_elements(self):
        draw = random.Random(72)
        for table in TABLES:
            for length in (1, 2, 3, draw.randint(4, 59), 60):
                for sequence in sequences(table, length, draw)[::4]:
                    self.check(table, sequence)
        for length in range(1, 61):
            self.check(switch, drawn_sequence(switch, length, draw))

    def test_two_hundred_and_two_thousand_elements(self):
        draw = random.Random(73)
        for table in TABLES[::9]:
            for sequence in sequences(table, 200, draw)[::3]:
                self.check(table, sequence)
            for sequence in sequences(table, 2000, draw)[::3]:
                self.assertTrue(are_correct(table, sequence, self.check(table, sequence)))

    def test_every_beginning_has_the_same_colors(self):
        draw = random.Random(74)
        for table in TABLES[::4]:
            for sequence in sequences(table, 20, draw)[::3]:
                colors = gap_colors(table, sequence)
                for count in range(1, 21):
                    self.assertEqual(gap_colors(table, sequence[:count]), colors[:count])
        sequence = drawn_sequence(switch, 2000, draw)
        self.assertEqual(gap_colors(switch, sequence[:1500]), gap_colors(switch, sequence)[:1500])

    def test_later_elements_do_not_matter(self):
        draw = random.Random(75)
        for table in TABLES[::4]:
            sequence = drawn_sequence(table, 15, draw)
            for element in range(len(table)):
                self.assertEqual(gap_colors(table, sequence + [element])[:15], gap_colors(table, sequence))

    def test_few_colors(self):
        # The bound is the number of right-equivalent elements, or one where a level has no idempotent.
        draw = random.Random(76)
        for rows, bound in (([[0]], 1), (right_zero_rows(5), 5), (nilpotent_rows(16), 16), (NULL, 2), (LEFT_ZERO, 1),
                            (pair_rows(LEFT_ZERO, right_zero_rows(3)), 3), (cyclic_rows(16), 16), (SWITCH, 3),
                            (matrix_rows(1, 3, [[0], [0], [0]]), 4), (matrix_rows(2, 2, [[1, 0], [0, 0]]), None)):
            table = ProductTable(rows)
            self.assertIn(bound, (color_bound(table), None))
            for length in (60, 200):
                for sequence in sequences(table, length, draw):
                    self.check(table, sequence)

    def test_equal_calls_give_equal_colors(self):
        draw = random.Random(77)
        for table in TABLES[::7]:
            sequence = drawn_sequence(table, 30, draw)
            colors = gap_colors(table, sequence)
            self.assertEqual(gap_colors(sequence=tuple(sequence), table=ProductTable(table.rows())), colors)
            gap_colors(table, sequence).append(0)
            kept = list(sequence)
            self.assertEqual([gap_colors(table, sequence), sequence], [colors, kept])

    def test_a_new_list(self):
        sequence = [0]
        self.assertEqual(gap_colors(ProductTable([[0]]), sequence), [1])
        self.assertIsNot(gap_colors(ProductTable([[0]]), sequence), sequence)

    def test_the_opposite_table(self):
        # The definition has sides: what is correct for one table may be wrong for the opposite one.
        draw = random.Random(78)
        for table in TABLES[::5]:
            self.check(opposite(table), drawn_sequence(table, 40, draw))


class FirstErrorTest(unittest.TestCase, RaiseCheck):
    def test_example(self):
        results = [first_color_error(parity, [1, 1, 1], [1, 1, 1]), first_color_error(parity, [1, 1, 1], [1, 2, 1]),
                   first_color_error(low, [1, 0, 1], [2, 1, 2])]
        self.assertEqual(results, [(1, 2, 1, 2), None, None])

    def test_all_small_colorings(self):
        draw = random.Random(79)
        found = set()
        for table in (parity, low, switch, left_zero, ProductTable(right_zero_rows(2)), ProductTable(NULL)):
            for length in range(1, 6):
                sequence = drawn_sequence(table, length, draw)
                for colors in itertools.product(range(1, 4), repeat=length):
                    expected = expected_error(table, sequence, colors)
                    self.assertEqual(first_color_error(table, sequence, list(colors)), expected)
                    found.add(expected)
        self.assertGreater(len(found), 10)

    def test_drawn_colorings(self):
        draw = random.Random(80)
        found = set()
        for table in TABLES[::2]:
            for length in (6, 10):
                few = [draw.randrange(len(table)) for _ in range(2)]
                for most in (1, 2, 4):
                    sequence = [draw.choice(few) for _ in range(length)]
                    colors = [draw.randint(1, most) for _ in range(length)]
                    expected = expected_error(table, sequence, colors)
                    self.assertEqual(first_color_error(table, sequence, colors), expected)
                    self.assertEqual(first_color_error(colors=tuple(colors), sequence=tuple(sequence), table=table),
                                     expected)
                    found.add(expected)
        self.assertGreater(len(found), 20)

    def test_wrong_colors_of_some_gaps(self):
        draw = random.Random(81)
        found = set()
        for table in TABLES[::2]:
            for wrong in (1, 2, 3, 4, 6):
                sequence = drawn_sequence(table, 11, draw)
                colors = gap_colors(table, sequence)
                for gap in draw.sample(range(11), wrong):
                    colors[gap] = draw.randint(1, color_bound(table) + 1)
                expected = expected_error(table, sequence, colors)
                self.assertEqual(first_color_error(table, sequence, colors), expected)
                found.add(expected)
        self.assertGreater(len(found), 20)
        self.assertIn(None, found)

    def test_the_first_tuple(self):
        self.assertEqual(first_color_error(parity, [0, 0, 1, 0, 1], [1] * 5), (1, 2, 1, 3))
        self.assertEqual(first_color_error(parity, [1, 0, 0, 0, 1], [1] * 5), (1, 2, 1, 5))
        self.assertEqual(first_color_error(low, [1, 1, 1, 0], [1] * 4), (1, 2, 1, 4))
        self.assertEqual(first_color_error(low, [1, 0, 1, 1], [1] * 4), (2, 3, 1, 2))
        self.assertEqual(first_color_error(low, [1, 0, 1, 1], [2, 1, 1, 1]), None)
        # Gap 1 has the smaller color, so its pairs count first, though those of gap 2 end earlier.
        self.assertEqual(first_color_error(parity, [1, 1, 1, 1, 1, 1], [1, 2, 2, 1, 1, 1]), (1, 4, 1, 4))
        self.assertEqual(first_color_error(parity, [1, 1, 1, 1, 1], [3, 2, 2, 2, 3]), (2, 3, 2, 3))
        result = first_color_error(parity, [1, 1], [1, 1])
        self.assertEqual([result, type(result)], [(1, 2, 1, 2), tuple])

    def test_only_smaller_colors_separate(self):
        self.assertEqual(first_color_error(parity, [0, 1, 1], [2, 3, 2]), None)
        self.assertEqual(first_color_error(parity, [0, 1, 0], [2, 3, 2]), (1, 3, 1, 3))
        self.assertEqual(first_color_error(parity, [0, 1, 0], [2, 1, 2]), None)
        self.assertEqual(first_color_error(parity, [0, 1, 0], [10 ** 29, 10 ** 29 + 1, 10 ** 29]), (1, 3, 1, 3))
        self.assertEqual(first_color_error(parity, [0, 1, 0], [10 ** 29, 10 ** 29 - 1, 10 ** 29]), None)

    def test_the_first_element_does_not_matter(self):
        for element in range(3):
            self.assertIsNone(first_color_error(switch, [element, 1, 1], [1, 1, 1]))
            self.assertIsNone(first_color_error(switch, [element], [7]))

    def test_the_product_with_the_first_factor_on_the_left(self):
        self.assertIsNone(first_color_error(left_zero, [0, 1, 0, 1], [1] * 4))
        self.assertEqual(first_color_error(ProductTable(right_zero_rows(2)), [0, 1, 0, 1], [1] * 4), (1, 2, 1, 3))

    def test_two_hundred_elements(self):
        self.assertIsNone(first_color_error(low, [1] * 200, [1] * 200))
        self.assertEqual(first_color_error(low, [1] * 199 + [0], [5] * 200), (1, 2, 1, 200))
        self.assertEqual(first_color_error(parity, [0] * 198 + [1, 0], [1] * 200), (1, 2, 1, 199))
        self.assertIsNone(first_color_error(parity, [1] * 200, list(range(1, 201))))
        self.assertIsNone(first_color_error(parity, [1] * 200, [1 + place % 2 for place in range(200)]))
        colors = [3, 2] * 99 + [1, 1]
        self.assertEqual(first_color_error(parity, [1] * 200, colors), (199, 200, 199, 200))

    def test_lengths(self):
        for length in (201, 202, 1999, 2000):
            self.assertEqual(self.raised(TooMany, first_color_error, low, [1] * length, [1] * length).count, length)
            for wrong in ([1] * (length - 1), [1] * (length + 1), [0] * length, None):
                self.assert_raises_with(InvalidColors, "value", wrong, first_color_error, low, [1] * length, wrong)
        self.assertEqual(self.raised(TooMany, first_color_error, low, [1] * 201, list(range(1, 202))).count, 201)

    def test_values_that_are_no_colors(self):
        wrongs = [None, True, 0, 1, "", "111", {}, {0: 1, 1: 1, 2: 1}, low, [], (), [1], [1, 1], [1, 1, 1, 1], (1, 1),
                  [[1, 1, 1]], [1, 1, [1]]]
        for item in values_that_are_no_integer() + [0, -1, -10 ** 29, GapColorer(low)]:
            wrongs += [[item, 1, 1], [1, item, 1], [1, 1, item], (1, 1, item)]
        for wrong in wrongs:
            with self.subTest(wrong=wrong):
                self.assert_raises_with(InvalidColors, "value", wrong, first_color_error, low, [1, 1, 0], wrong)

    def test_arguments_are_not_changed(self):
        sequence, colors = [1, 1, 0, 1], [1, 2, 1, 2]
        first_color_error(low, sequence, colors)
        self.assertEqual([sequence, colors], [[1, 1, 0, 1], [1, 2, 1, 2]])


class ColorerTest(unittest.TestCase, RaiseCheck):
    def test_example(self):
        colorer = GapColorer(ProductTable([[0]]))
        self.assertEqual([colorer.push(0), colorer.push(0), len(colorer), colorer.colors()], [1, 1, 2, [1, 1]])

    def pushed(self, table, sequence):
        colorer = GapColorer(table)
        for element in sequence:
            colorer.push(element)
        return colorer

    def test_colors_of_a_growing_sequence(self):
        draw = random.Random(82)
        for table in TABLES[::2]:
            for length in (0, 1, 2, 30):
                sequence = drawn_sequence(table, length, draw)
                colorer = GapColorer(table=table)
                self.assertEqual([colorer.colors(), len(colorer)], [[], 0])
                for count, element in enumerate(sequence, 1):
                    color = colorer.push(element=element)
                    expected = gap_colors(table, sequence[:count])
                    self.assertEqual([color, colorer.colors(), len(colorer)], [expected[-1], expected, count])
                    self.assertIs(type(color), int)

    def test_two_thousand_elements(self):
        draw = random.Random(83)
        for table in (parity, switch, ProductTable(cyclic_rows(16)), ProductTable(lowest_rows(16))):
            sequence = drawn_sequence(table, 2000, draw)
            colorer = self.pushed(table, sequence)
            self.assertEqual([colorer.colors(), len(colorer)], [gap_colors(table, sequence), 2000])
            state = colorer.state()
            for _ in range(2):
                self.assertEqual(self.raised(TooMany, colorer.push, 0).count, 2001)
                self.assertEqual([colorer.colors(), len(colorer), colorer.state()],
                                 [gap_colors(table, sequence), 2000, state])
            self.assert_raises_with(InvalidElement, "value", wrong := 16, colorer.push, wrong)

    def test_wrong_elements(self):
        for table in (low, switch, ProductTable(cyclic_rows(16))):
            for wrong in values_that_are_no_element(len(table)):
                with self.subTest(wrong=wrong):
                    colorer = self.pushed(table, [1, 0])
                    state, colors = colorer.state(), colorer.colors()
                    self.assert_raises_with(InvalidElement, "value", wrong, colorer.push, wrong)
                    self.assertEqual([colorer.state(), colorer.colors(), len(colorer)], [state, colors, 2])
                    self.assertEqual([colorer.push(1)], gap_colors(table, [1, 0, 1])[2:])

    def check_state(self, state, depth):
        self.assertLessEqual(depth, 6)
        for item in state:
            if type(item) is tuple:
                self.check_state(item, depth + 1)
            elif item is not None:
                self.assertIs(type(item), int)

    def test_the_form_of_states(self):
        draw = random.Random(84)
        for table in TABLES[::3]:
            colorer = GapColorer(table)
            for element in drawn_sequence(table, 12, draw):
                self.assertIs(type(colorer.state()), tuple)
                self.check_state(colorer.state(), 1)
                colorer.push(element)

    def test_equal_states_after_different_beginnings(self):
        draw = random.Random(85)
        repeated = 0
        for table in TABLES[::5]:
            first = {}
            for length in list(range(8)) * 8:
                sequence = drawn_sequence(table, length, draw)
                colorer = self.pushed(ProductTable(table.rows()), sequence)
                further = [0, len(table) - 1] + drawn_sequence(table, 12, random.Random(86)) * 2
                colors = [colorer.copied().push(element) for element in range(len(table))]
                state = colorer.state()
                colors += [colorer.push(element) for element in further]
                known, after, beginning = first.setdefault(state, (colors, colorer.state(), sequence))
                self.assertEqual([known, after], [colors, colorer.state()])
                repeated += beginning != sequence
        self.assertGreater(repeated, 100)

    def test_a_state_is_repeated_in_a_long_sequence(self):
        # There are only finitely many states for a table, so a long sequence comes to one again.
        for table in (parity, low, switch):
            colorer = GapColorer(table)
            states = [colorer.state()]
            for _ in range(200):
                colorer.push(1)
                states.append(colorer.state())
            self.assertLess(len(set(states)), 10)

    def test_copies_go_their_own_ways(self):
        draw = random.Random(87)
        for table in TABLES[::4]:
            sequence, one, other = (drawn_sequence(table, length, draw) for length in (6, 9, 10))
            colorer = self.pushed(table, sequence)
            state = colorer.state()
            copied = colorer.copied()
            self.assertEqual([copied.colors(), copied.state(), len(copied)], [colorer.colors(), state, 6])
            self.assertIs(type(copied), GapColorer)
            for element in one:
                colorer.push(element)
            self.assertEqual([copied.colors(), copied.state(), len(copied)], [gap_colors(table, sequence), state, 6])
            third = copied.copied()
            for element in other:
                copied.push(element)
            self.assertEqual(colorer.colors(), gap_colors(table, sequence + one))
            self.assertEqual(copied.colors(), gap_colors(table, sequence + other))
            self.assertEqual(third.colors(), gap_colors(table, sequence))

    def test_a_copy_of_nothing(self):
        copied = GapColorer(low).copied()
        self.assertEqual([copied.colors(), len(copied), copied.push(0)], [[], 0, gap_colors(low, [0])[0]])

    def test_returned_lists_are_new(self):
        colorer = self.pushed(low, [1, 0, 1])
        colors = colorer.colors()
        colorer.colors().append(9)
        colorer.colors()[0] = 9
        self.assertEqual(colorer.colors(), colors)
        self.assertEqual(colors + [colorer.push(1)], gap_colors(low, [1, 0, 1, 1]))

    def test_colorers_used_by_turns(self):
        draw = random.Random(88)
        tables = [low, low, parity, switch]
        parts = [drawn_sequence(table, 20, draw) for table in tables]
        colorers = [GapColorer(table) for table in tables]
        for row in zip(*parts):
            for colorer, element in zip(colorers, row):
                colorer.push(element)
        for colorer, table, sequence in zip(colorers, tables, parts):
            self.assertEqual(colorer.colors(), gap_colors(table, sequence))

    def test_equality(self):
        colorer = GapColorer(low)
        self.assertTrue(colorer == colorer)
        self.assertFalse(colorer == GapColorer(low))
        self.assertFalse(colorer == colorer.copied())
        self.assertTrue(colorer != GapColorer(low))


class ArgumentsTest(unittest.TestCase, RaiseCheck):
    def test_values_that_are_no_table(self):
        for wrong in values_that_are_no_table():
            with self.subTest(wrong=wrong):
                self.assert_raises_with(InvalidTable, "value", wrong, GapColorer, wrong)
                for sequence in ([0], [], None, [0] * 201):
                    self.assert_raises_with(InvalidTable, "value", wrong, gap_colors, wrong, sequence)
                    for held in ([1], None, [1] * 201):
                        self.assert_raises_with(InvalidTable, "value", wrong, first_color_error, wrong, sequence, held)

    def test_values_that_are_no_sequence(self):
        for table in (low, ProductTable(lowest_rows(16))):
            for wrong in values_that_are_no_sequence(len(table)):
                with self.subTest(wrong=wrong):
                    self.assert_raises_with(InvalidSequence, "value", wrong, gap_colors, table, wrong)
                    for held in ([1], None, []):
                        self.assert_raises_with(InvalidSequence, "value", wrong, first_color_error, table, wrong, held)
