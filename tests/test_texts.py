"""Promises [131] to [136]: text formats."""

import random
import unittest

from producttrees.building import build_tree
from producttrees.coloring import gap_colors
from producttrees.errors import (InvalidColors, InvalidLetters, InvalidLine, InvalidSequence, InvalidTable, InvalidText,
                                 InvalidTree, NotAssociative, TooMany)
from producttrees.tables import ProductTable
from producttrees.texts import (format_colors, format_sequence, format_table, format_transformations, format_tree,
                                parse_colors, parse_sequence, parse_table, parse_transformations, parse_tree)
from producttrees.transformations import Transformations
from tests.helpers import (LOW, PARITY, RaiseCheck, cyclic_rows, drawn_letters, drawn_tree, left_deep, left_zero_rows,
                           single_chain, values_that_are_no_integer, values_that_are_no_sequence,
                           values_that_are_no_table, values_that_are_no_tree, various_tables, wide)

low = ProductTable(LOW)
TABLES = various_tables()
PARSERS = (parse_table, parse_sequence, parse_tree, parse_colors, parse_transformations)

# For each parsing function a text with a line of each kind, and what it means.
SAMPLES = [
    (parse_table, "table 2\nrow 0 1\nrow 1 0", ProductTable(PARITY)),
    (parse_sequence, "sequence 5\nitems 1 0\nitems 15\nitems 2 3", [1, 0, 15, 2, 3]),
    (parse_tree, "tree 5\nleaf 1\nleaf 15\nnode 1 0\nnode\nnode 2 3", [1, 15, (1, 0), (), (2, 3)]),
    (parse_colors, "colors 3\nitems 7\nitems 100 1", [7, 100, 1]),
    (parse_transformations, "transformations 2\nletter b 1 0\nletter a 0 0",
     Transformations(2, {"b": [1, 0], "a": [0, 0]})),
]


def spread(text, draw):
    """Return the text with blank lines and further spaces, and the number of each of its lines."""
    lines, numbers = [], []
    for line in text.split("\n"):
        lines += draw.choice([[], [], [""], ["", "   "], [" "]])
        numbers.append(len(lines))
        words = line.split(" ")
        line = words[0]
        for word in words[1:]:
            line += " " * draw.randint(1, 3) + word
        lines.append(" " * draw.randint(0, 2) + line + " " * draw.randint(0, 2))
    return "\n".join(lines + draw.choice([[], [""], ["", " ", ""]])), numbers


class LineCheck(unittest.TestCase, RaiseCheck):
    def invalid(self, parse, text, index):
        error = self.raised(InvalidLine, parse, text)
        self.assertEqual([error.index, type(error.index)], [index, int], text[:300])
        self.assertEqual(self.raised(InvalidLine, parse, text=text).index, index)


class ParsingTest(LineCheck):
    def test_samples(self):
        for parse, text, value in SAMPLES:
            self.assertEqual(parse(text), value)
            self.assertEqual(parse(text=text), value)
            self.assertIs(type(parse(text)), type(value))

    def test_blank_lines_and_spaces(self):
        draw = random.Random(161)
        for parse, text, value in SAMPLES:
            for _ in range(40):
                self.assertEqual(parse(spread(text, draw)[0]), value)
            self.assertEqual(parse("\n\n" + text + "\n\n\n"), value)
            self.assertEqual(parse(text.replace(" ", "     ").replace("\n", "\n    \n ")), value)

    def test_leading_zeros_and_digits(self):
        for parse, text, value in SAMPLES:
            for zeros in (1, 5, 27):
                changed = "".join("0" * zeros + sign if sign.isdigit() and before == " " else sign
                                  for before, sign in zip(" " + text, text))
                self.assertEqual(parse(changed), value)
        # Thirty digits are the most, zeros included.
        for parse, text, _ in SAMPLES:
            for place, line in enumerate(text.split("\n")):
                words = line.split(" ")
                for word in range(1, len(words)):
                    if words[word].isdigit():
                        for digits, right in ((29, True), (30, True), (31, False), (60, False)):
                            lines = text.split("\n")
                            lines[place] = " ".join(words[:word] + [words[word].zfill(digits)] + words[word + 1:])
                            if right:
                                self.assertEqual(parse("\n".join(lines)), parse(text))
                            else:
                                self.invalid(parse, "\n".join(lines), place)

    def test_values_that_are_no_text(self):
        for parse in PARSERS:
            for wrong in [None, True, 0, 1, [], ["table 1", "row 0"], (), ("",), {}, {"a": 1}, low]:
                self.assert_raises_with(InvalidText, "value", wrong, parse, wrong)

    def test_missing_lines(self):
        draw = random.Random(162)
        for parse, text, _ in SAMPLES:
            lines = text.split("\n")
            kept = 2 if parse == parse_transformations else len(lines)
            for count in range(kept):
                short = "\n".join(lines[:count])
                # An empty text is one blank line.
                self.invalid(parse, short, max(count, 1))
                self.invalid(parse, short + "\n", max(count, 1) + 1)
                self.invalid(parse, short + "\n  \n\n", max(count, 1) + 3)
                spreaded, _ = spread(short, draw)
                self.invalid(parse, spreaded, spreaded.count("\n") + 1)

    def test_lines_too_many(self):
        draw = random.Random(163)
        for parse, text, _ in SAMPLES:
            for line in ("row 0 1", "items 1", "leaf 0", "node", "letter c 0", "x", "0", text.split("\n")[0],
                         text.split("\n")[1]):
                wrong = text + "\n" + line
                if parse == parse_transformations and line in ("letter c 0",):
                    continue
                self.invalid(parse, wrong, text.count("\n") + 1)
                self.invalid(parse, text + "\n\n \n" + line + "\n", text.count("\n") + 3)
                self.invalid(parse, wrong + "\n" + line, text.count("\n") + 1)
                changed, numbers = spread(wrong, draw)
                self.invalid(parse, changed, numbers[-1])

    def test_each_line_without_its_form(self):
        draw = random.Random(164)
        for parse, text, _ in SAMPLES:
            lines = text.split("\n")
            for place, line in enumerate(lines):
                words = line.split(" ")
                wrongs = ["x", "-", words[0] + "x", words[0][:-1], words[0].upper(), " ".join([words[0]] + ["x"]),
                          line + " x", line + " -1", line + " +1", line + " 1.0", line + ",1", "x " + line,
                          words[0] + " " + line]
                odd = ("x", "-1", "+1", "-0", "1x", "1_0", "0x1", "--1", "1-", ",", "''")
                wrongs += [" ".join(words[:word] + [wrong] + words[word + 1:]) for word in range(1, len(words))
                           if words[word].isdigit() for wrong in odd]
                for wrong in wrongs:
                    changed = "\n".join(lines[:place] + [wrong] + lines[place + 1:])
                    self.invalid(parse, changed, place)
                    changed, numbers = spread(changed, draw)
                    self.invalid(parse, changed, numbers[place])

    def test_the_first_of_several_wrong_lines(self):
        for parse, text, _ in SAMPLES:
            lines = text.split("\n")
            for place in range(len(lines)):
                self.invalid(parse, "\n".join(lines[:place] + ["x"] * (len(lines) - place)), place)
                self.invalid(parse, "\n".join(lines[:place] + ["x"] * 9), place)

    def test_numbers_of_the_header(self):
        for parse, word, greatest in ((parse_table, "table", 16), (parse_sequence, "sequence", 2000),
                                      (parse_tree, "tree", 4100), (parse_colors, "colors", 2000),
                                      (parse_transformations, "transformations", 5)):
            for number in (0, -1, greatest + 1, greatest * 10, 10 ** 29, 10 ** 40):
                self.invalid(parse, f"{word} {number}", 0)
                self.invalid(parse, f"\n\n{word} {number}\nitems 1\nrow 0\nleaf 0", 2)
            for number in (1, greatest):
                self.invalid(parse, f"{word} {number}", 1)
            for header in (word, f"{word} 1 1", f"{word} x", f"{word}s 1", f"{word}1", "1", f"1 {word}", f"{word} 1 x"):
                self.invalid(parse, header + "\nrow 0\nitems 1", 0)

    def test_texts_of_another_format(self):
        for parse, _, _ in SAMPLES:
            for other, text, _ in SAMPLES:
                if other != parse:
                    self.invalid(parse, text, 0)

    def test_a_line_feed_and_words_of_other_signs(self):
        self.invalid(parse_sequence, "sequence\n1\nitems 0", 0)
        self.invalid(parse_sequence, "sequence 1\nitems\n0", 1)
        self.invalid(parse_table, "table 1 row 0", 0)


class TableTest(LineCheck):
    def test_example(self):
        self.assertEqual([format_table(low), parse_table("table 1\n\n row  00").rows()],
                         ["table 2\nrow 0 0\nrow 0 1", [[0]]])

    def test_written_tables_are_parsed_as_equal_ones(self):
        draw = random.Random(165)
        for table in TABLES:
            text = format_table(table=table)
            self.assertEqual(parse_table(text), table)
            self.assertEqual(parse_table(spread(text, draw)[0]), table)
            lines = text.split("\n")
            self.assertEqual([lines[0], len(lines)], [f"table {len(table)}", len(table) + 1])
            width = 1 if len(table) <= 10 else 2
            for line, row in zip(lines[1:], table.rows()):
                self.assertEqual(line, " ".join(["row"] + [str(element).zfill(width) for element in row]))

    def test_digits(self):
        self.assertEqual(format_table(ProductTable([[0]])), "table 1\nrow 0")
        self.assertEqual(format_table(ProductTable(left_zero_rows(10))).split("\n")[10], "row" + " 9" * 10)
        self.assertEqual(format_table(ProductTable(left_zero_rows(11))).split("\n")[2::9], ["row" + " 01" * 11,
                                                                                            "row" + " 10" * 11])
        self.assertEqual(parse_table("table 2\nrow 1 00000\nrow 000 0001").rows(), [[1, 0], [0, 1]])

    def test_tables_that_are_not_associative(self):
        self.assertEqual(self.raised(NotAssociative, parse_table, "table 2\nrow 0 0\nrow 1 0").triple, (1, 0, 1))
        # An invalid line comes first.
        self.invalid(parse_table, "table 2\nrow 0 0\nrow 1 0\nrow", 3)

    def test_wrong_rows(self):
        for line in ("row 0", "row 0 1 0", "row", "row 0 2", "row 2 0", "row 0 16", "items 0 1", "0 1"):
            self.invalid(parse_table, "table 2\nrow 0 1\n" + line, 2)
            self.invalid(parse_table, "table 2\n" + line + "\nrow 0 1", 1)
        text = format_table(ProductTable(cyclic_rows(16)))
        self.invalid(parse_table, text.replace("15", "16"), 1)
        self.invalid(parse_table, text.replace("table 16", "table 15"), 1)

    def test_values_that_are_no_table(self):
        for wrong in values_that_are_no_table():
            self.assert_raises_with(InvalidTable, "value", wrong, format_table, wrong)


class ItemsTest(LineCheck):
    """Sequences and colors."""

    def test_example(self):
        self.assertEqual([format_sequence([1, 0, 1]), parse_sequence("sequence 3\nitems 1\nitems 0 1")],
                         ["sequence 3\nitems 1 0 1", [1, 0, 1]])
        self.invalid(parse_sequence, "sequence 2\nitems 1\nitem 0", 2)

    def expected(self, word, items):
        lines = [f"{word} {len(items)}"]
        for start in range(0, len(items), 40):
            lines.append("items " + " ".join(str(item) for item in items[start:start + 40]))
        return "\n".join(lines)

    def test_written_sequences_are_parsed_as_equal_ones(self):
        draw = random.Random(166)
        for length in (1, 2, 39, 40, 41, 79, 80, 81, 120, 1999, 2000):
            sequence = [draw.randrange(16) for _ in range(length)]
            text = format_sequence(sequence)
            self.assertEqual(text, self.expected("sequence", sequence))
            self.assertEqual(format_sequence(sequence=tuple(sequence)), text)
            result = parse_sequence(text)
            self.assertEqual([result, type(result)], [sequence, list])
            self.assertEqual(parse_sequence(spread(text, draw)[0]), sequence)

    def test_written_colors_are_parsed_as_equal_ones(self):
        draw = random.Random(167)
        for length in (1, 2, 39, 40, 41, 80, 81, 2000):
            colors = [draw.choice([1, 2, 30, 10 ** 29, 10 ** 30 - 1]) for _ in range(length)]
            text = format_colors(colors)
            self.assertEqual(text, self.expected("colors", colors))
            self.assertEqual(format_colors(colors=tuple(colors)), text)
            result = parse_colors(text)
            self.assertEqual([result, type(result)], [colors, list])
            self.assertEqual(parse_colors(spread(text, draw)[0]), colors)

    def test_colors_of_more_than_thirty_digits(self):
        self.assertEqual(format_colors([10 ** 30, 1]), "colors 2\nitems 1" + "0" * 30 + " 1")
        self.invalid(parse_colors, format_colors([10 ** 30, 1]), 1)
        self.invalid(parse_colors, format_colors([1] * 40 + [10 ** 30]), 2)
        self.assertEqual(parse_colors(format_colors([10 ** 30 - 1])), [10 ** 30 - 1])

    def test_any_number_of_items_in_a_line(self):
        draw = random.Random(168)
        sequence = [draw.randrange(16) for _ in range(200)]
        for cuts in ([], list(range(1, 200)), [1], [199], [50, 51, 120]):
            bounds = [0, *cuts, 200]
            lines = ["items " + " ".join(map(str, sequence[start:stop])) for start, stop in zip(bounds, bounds[1:])]
            self.assertEqual(parse_sequence("\n".join(["sequence 200"] + lines)), sequence)
            self.assertEqual(parse_colors("\n".join(["colors 200"] + lines).replace(" 0", " 99")),
                             [item if item else 99 for item in sequence])

    def test_lines_that_exceed_the_number(self):
        for parse, word in ((parse_sequence, "sequence"), (parse_colors, "colors")):
            self.invalid(parse, f"{word} 2\nitems 1 1 1", 1)
            self.invalid(parse, f"{word} 3\nitems 1 1\nitems 1 1", 2)
            self.invalid(parse, f"{word} 2\nitems 1 1\nitems 1", 2)
            self.invalid(parse, f"{word} 2\nitems 1 1\nitems", 2)
            self.invalid(parse, f"{word} 2\nitems 1\nitems\nitems 1", 2)
            self.invalid(parse, f"{word} 2\nitems\nitems 1 1", 1)
            self.invalid(parse, f"{word} 2000\n" + "items 1\n" * 1999 + "items 1 1", 2000)
            self.invalid(parse, f"{word} 2000\n" + "items 1\n" * 1999, 2001)
            self.assertEqual(parse(f"{word} 2000\n" + "items 1\n" * 2000), [1] * 2000)

    def test_items_at_and_beyond_the_limits(self):
        self.assertEqual(parse_sequence("sequence 2\nitems 15 0"), [15, 0])
        self.assertEqual(parse_colors("colors 2\nitems 16 1"), [16, 1])
        for item in ("16", "100", "1" * 30, "-1"):
            self.invalid(parse_sequence, f"sequence 2\nitems 1\nitems {item}", 2)
            self.invalid(parse_sequence, f"sequence 3\nitems 1 {item} 1", 1)
        for item in ("0", "00", "-1", "0" * 30):
            self.invalid(parse_colors, f"colors 2\nitems 1\nitems {item}", 2)
            self.invalid(parse_colors, f"colors 3\nitems 1 {item} 1", 1)

    def test_texts_of_many_characters(self):
        text = "sequence 2000\n" + "\n".join(["items   7"] * 1990 + ["items 1"] * 10)
        self.assertEqual(parse_sequence(text + " " * (20000 - len(text))), [7] * 1990 + [1] * 10)
        self.assertEqual(parse_sequence("\n" * 19983 + "sequence 1\nitems 3"), [3])
        self.invalid(parse_sequence, "\n" * 20000, 20001)
        self.invalid(parse_colors, " " * 20000, 1)

    def test_values_that_are_no_sequence(self):
        for wrong in values_that_are_no_sequence(16):
            with self.subTest(wrong=wrong):
                self.assert_raises_with(InvalidSequence, "value", wrong, format_sequence, wrong)
        self.assertEqual(format_sequence([15]), "sequence 1\nitems 15")
        self.assert_raises_with(InvalidSequence, "value", wrong := [16], format_sequence, wrong)

    def test_values_that_are_no_colors(self):
        wrongs = [None, True, 0, 1, "", "1", {}, {0: 1}, low, [], (), [[1]], [1] * 2001, (1,) * 2001]
        for item in values_that_are_no_integer() + [0, -1, -10 ** 29]:
            wrongs += [[item], [1, item, 1], (item,), [1] * 99 + [item]]
        for wrong in wrongs:
            with self.subTest(wrong=wrong):
                self.assert_raises_with(InvalidColors, "value", wrong, format_colors, wrong)

    def test_colors_of_sequences(self):
        draw = random.Random(169)
        for table in TABLES[::8]:
            colors = gap_colors(table, [draw.randrange(len(table)) for _ in range(100)])
            self.assertEqual(parse_colors(format_colors(colors)), colors)

    def test_arguments_are_not_changed(self):
        for function in (format_sequence, format_colors):
            items = [3, 1, 2] * 20
            function(items)
            self.assertEqual(items, [3, 1, 2] * 20)


class TreeTest(LineCheck):
    def test_example(self):
        self.assertEqual([format_tree([1, 0, (0, 1)]), parse_tree("tree 1\nleaf 5")],
                         ["tree 3\nleaf 1\nleaf 0\nnode 0 1", [5]])

    def check(self, tree, draw):
        lines = [f"tree {len(tree)}"]
        for node in tree:
            words = ["leaf", node] if isinstance(node, int) else ["node", *node]
            lines.append(" ".join(str(word) for word in words))
        text = format_tree(tree)
        self.assertEqual(text, "\n".join(lines))
        self.assertEqual(format_tree(tree=tuple(tree)), text)
        for form in (text, spread(text, draw)[0]):
            result = parse_tree(form)
            self.assertEqual([result, type(result)], [tree, list])
            self.assertEqual([type(node) for node in result], [type(node) for node in tree])

    def test_written_trees_are_parsed_as_equal_ones(self):
        draw = random.Random(170)
        for size in list(range(1, 20)) * 2:
            self.check(drawn_tree(draw, size, 15), draw)
        for tree in ([5], [()], [15], [3, (0,)], [(), (0,)], [(), (), (1, 0)], left_deep([7, 15, 0] * 600),
                     wide([1] * 4099), single_chain(4100), build_tree(low, [1, 0] * 1000)):
            self.check(tree, draw)

    def test_a_node_without_children_has_no_space_at_the_end(self):
        self.assertEqual(format_tree([()]), "tree 1\nnode")
        self.assertEqual(parse_tree("tree 1\nnode "), [()])

    def test_wrong_lines(self):
        for line in ("leaf", "leaf 16", "leaf 1 1", "leaf -1", "node 1", "node 5", "node 0 1", "node 0 x", "inner 0",
                     "items 0", "0", "node -1", "row 0", "(0)", "leaves 0", "leaf x"):
            self.invalid(parse_tree, "tree 2\nleaf 0\n" + line, 2)
            self.invalid(parse_tree, "tree 3\nleaf 0\n" + line + "\nnode 0 1", 2)
        self.invalid(parse_tree, "tree 1\nnode 0", 1)
        self.invalid(parse_tree, "tree 3\nleaf 0\nleaf 0\nnode 0 2", 3)
        self.assertEqual(parse_tree("tree 3\nleaf 0\nleaf 0\nnode 0 1"), [0, 0, (0, 1)])

    def test_lists_of_nodes_that_are_no_tree(self):
        for text, nodes in (("tree 2\nleaf 0\nleaf 1", [0, 1]), ("tree 3\nleaf 0\nleaf 1\nnode 0", [0, 1, (0,)]),
                            ("tree 2\nleaf 3\nnode 0 0", [3, (0, 0)]), ("tree 2\nleaf 0\nnode", [0, ()]),
                            ("tree 4\nleaf 0\nleaf 1\nnode 0 1\nnode 0 2", [0, 1, (0, 1), (0, 2)])):
            error = self.raised(InvalidTree, parse_tree, text)
            self.assertEqual([error.value, type(error.value)], [nodes, list])
            # An invalid line comes first.
            self.invalid(parse_tree, text + "\nx", text.count("\n") + 1)

    def test_values_that_are_no_tree(self):
        for wrong in values_that_are_no_tree():
            with self.subTest(wrong=wrong):
                self.assert_raises_with(InvalidTree, "value", wrong, format_tree, wrong)

    def test_arguments_are_not_changed(self):
        tree = [1, 0, (0, 1)]
        format_tree(tree)
        self.assertEqual(tree, [1, 0, (0, 1)])


class TransformationsTest(LineCheck):
    def test_example(self):
        self.assertEqual(format_transformations(Transformations(2, {"swap": [1, 0], "keep": [0, 1]})),
                         "transformations 2\nletter swap 1 0\nletter keep 0 1")

    def test_written_objects_are_parsed_as_equal_ones(self):
        draw = random.Random(171)
        found = 0
        while found < 30:
            states = draw.randint(1, 5)
            try:
                maps = Transformations(states, drawn_letters(states, draw.randint(1, 4), draw))
            except TooMany:
                continue
            found += 1
            text = format_transformations(transformations=maps)
            lines = [f"letter {name} " + " ".join(map(str, targets)) for name, targets in maps.letters().items()]
            self.assertEqual(text, "\n".join([f"transformations {states}"] + lines))
            for form in (text, spread(text, draw)[0]):
                result = parse_transformations(form)
                self.assertIs(type(result), Transformations)
                self.assertTrue(result == maps)
                self.assertEqual(list(result.letters()), list(maps.letters()))
                self.assertEqual(result.contents(), maps.contents())

    def test_numbers_of_letters(self):
        lines = [f"letter {name} 0 1" for name in ("zz", "a", "abcdefgh", "b", "c", "d")]
        for count in (1, 2, 3, 4):
            text = "\n".join(["transformations 2"] + lines[:count])
            self.assertEqual(list(parse_transformations(text).letters()), ["zz", "a", "abcdefgh", "b"][:count])
        for count in (5, 6):
            self.invalid(parse_transformations, "\n".join(["transformations 2"] + lines[:count]), 5)
        self.invalid(parse_transformations, "transformations 2", 1)
        self.invalid(parse_transformations, "transformations 2\n\n", 3)

    def test_wrong_letters(self):
        for line in ("letter", "letter a", "letter a 0", "letter a 0 1 0", "letter a 0 2", "letter a 2 0",
                     "letter a 0 -1", "letter A 0 1", "letter a1 0 1", "letter abcdefghi 0 1", "letter 0 1",
                     "letter 0 0 1", "letter b 0 1", "letters a 0 1", "a 0 1", "letter a=0,1", "letter a 0,1",
                     "letter a x 0", "letter a b 0 1"):
            self.invalid(parse_transformations, "transformations 2\nletter b 0 1\n" + line, 2)
            self.invalid(parse_transformations, "transformations 2\nletter b 0 1\n" + line + "\nletter c 0 1", 2)

    def test_too_many_maps(self):
        # These letters make all maps of three states.
        text = "transformations 3\nletter a 1 0 2\nletter b 1 2 0\nletter c 0 0 1"
        self.assertEqual(self.raised(TooMany, parse_transformations, text).count, 17)
        self.invalid(parse_transformations, text + "\nletter c 0 1 2", 4)
        self.invalid(parse_transformations, text + "\n\nx", 5)

    def test_values_that_are_no_transformations(self):
        for wrong in [None, True, 0, "", "transformations 1\nletter a 0", [], (), {}, {"a": [0]}, low, [0]]:
            self.assert_raises_with(InvalidLetters, "value", wrong, format_transformations, wrong)
