"""Promises [101] to [104]: sequence buffers."""

import random
import unittest

from producttrees.buffers import SequenceBuffer
from producttrees.building import build_tree
from producttrees.coloring import gap_colors
from producttrees.errors import (InvalidInteger, InvalidName, InvalidRange, InvalidSequence, InvalidTable,
                                 NothingToUndo, TooMany, UnknownName)
from producttrees.levels import height_bound
from producttrees.tables import ProductTable
from producttrees.trees import evaluate, first_tree_error, tree_height
from tests.helpers import (LOW, PARITY, SWITCH, RaiseCheck, cyclic_rows, drawn_sequence, lowest_rows,
                           values_that_are_no_integer, values_that_are_no_sequence, values_that_are_no_table,
                           various_tables)

parity = ProductTable(PARITY)
low = ProductTable(LOW)
switch = ProductTable(SWITCH)
TABLES = various_tables()

NOT_NAMES = [None, True, 0, 1, "", "A", "aB", "a b", "a1", "abcdefghi", "a-b", "a\n", "a ", [], ["a"], ("a",), {},
             {"a": 1}, low]


def name_of(number):
    return "abcdefghijklmnopqrstuvwxyz"[number // 26] + "abcdefghijklmnopqrstuvwxyz"[number % 26]


def filled(table, sequence, marks=()):
    buffer = SequenceBuffer(table)
    if sequence:
        buffer.append(sequence)
    for name, place in marks:
        buffer.set_mark(name, place)
    return buffer


class Model:
    """What a buffer should be, as a list, a dict, and a list of what there was before each change."""

    def __init__(self):
        self.sequence, self.marks, self.past = [], {}, []

    def change(self, sequence, marks):
        self.past.append((self.sequence, self.marks))
        self.sequence, self.marks = sequence, marks

    def undo(self):
        self.sequence, self.marks = self.past.pop()

    def ordered_marks(self):
        return sorted(self.marks.items(), key=lambda item: (item[1], item[0]))


class BufferCheck(unittest.TestCase, RaiseCheck):
    def check(self, buffer, sequence, marks):
        """Check the contents of a buffer; the marks are given in their order."""
        self.assertEqual([buffer.sequence(), len(buffer)], [list(sequence), len(sequence)])
        self.assertEqual(list(buffer.marks().items()), list(marks))
        self.assertEqual([type(buffer.sequence()), type(buffer.marks())], [list, dict])

    def refused(self, expected, field, held, buffer, method, *args, **named):
        """Check that a call raises and that the buffer stays as it was."""
        before = buffer.copied()
        order = list(buffer.marks().items())
        error = self.raised(expected, getattr(buffer, method), *args, **named)
        if field == "count":
            self.assertEqual(error.count, held)
        elif field is not None:
            self.assertIs(getattr(error, field), held)
        self.assertTrue(buffer == before)
        self.check(buffer, before.sequence(), order)


class ContentsTest(BufferCheck):
    def test_example(self):
        buffer = SequenceBuffer(parity)
        self.assertEqual([buffer.append([1, 1, 0, 1]), buffer.set_mark("m", 2), buffer.product(), buffer.product("m")],
                         [None, None, 1, 1])
        results = [buffer.truncate(1), buffer.marks(), buffer.undo(), buffer.marks(), buffer.sequence()]
        self.assertEqual(results, [None, {}, None, {"m": 2}, [1, 1, 0, 1]])

    def test_an_empty_buffer(self):
        buffer = SequenceBuffer(table=low)
        self.check(buffer, [], [])
        self.assertIs(buffer.table(), low)
        self.assertEqual(buffer.colors(), [])

    def test_values_that_are_no_table(self):
        for wrong in values_that_are_no_table():
            self.assert_raises_with(InvalidTable, "value", wrong, SequenceBuffer, wrong)

    def test_beside_a_list_and_a_dict(self):
        draw = random.Random(91)
        for table in TABLES[::6]:
            buffer, model = SequenceBuffer(table), Model()
            for _ in range(120):
                self.step(buffer, model, len(table), draw)
                self.check(buffer, model.sequence, model.ordered_marks())
            while model.past:
                buffer.undo()
                model.undo()
                self.check(buffer, model.sequence, model.ordered_marks())
            self.refused(NothingToUndo, None, None, buffer, "undo")

    def step(self, buffer, model, size, draw):
        """Change both likewise."""
        length = len(model.sequence)
        kind = draw.choice(["append", "append", "truncate", "set", "set", "end", "remove", "undo"])
        if kind == "append":
            more = [draw.randrange(size) for _ in range(draw.randint(1, 9))]
            self.assertIsNone(buffer.append(draw.choice([list, tuple])(more)))
            model.change(model.sequence + more, model.marks)
        elif kind == "truncate":
            kept = draw.randint(0, length)
            self.assertIsNone(buffer.truncate(kept) if draw.random() < 0.5 else buffer.truncate(length=kept))
            marks = {name: place for name, place in model.marks.items() if place <= kept}
            model.change(model.sequence[:kept], marks)
        elif kind in ("set", "end"):
            name, place = draw.choice("abcdefghijkl"), draw.randint(0, length) if kind == "set" else length
            if kind == "set":
                self.assertIsNone(buffer.set_mark(place=place, name=name))
            else:
                self.assertIsNone(buffer.set_mark(name) if draw.random() < 0.5 else buffer.set_mark(name, None))
            model.change(model.sequence, {**model.marks, name: place})
        elif kind == "remove" and model.marks:
            name = draw.choice(sorted(model.marks))
            self.assertIsNone(buffer.remove_mark(name=name))
            model.change(model.sequence, {other: place for other, place in model.marks.items() if other != name})
        elif kind == "undo" and model.past:
            self.assertIsNone(buffer.undo())
            model.undo()

    def test_what_is_passed_and_returned(self):
        buffer = SequenceBuffer(low)
        passed = [1, 0, 1]
        buffer.append(passed)
        passed.append(0)
        passed[0] = 0
        buffer.set_mark("a", 1)
        buffer.sequence().append(0)
        buffer.sequence()[0] = 0
        buffer.marks()["b"] = 0
        buffer.marks().clear()
        buffer.colors().clear()
        buffer.tree().clear()
        self.check(buffer, [1, 0, 1], [("a", 1)])
        self.assertEqual(buffer.colors(), gap_colors(low, [1, 0, 1]))
        self.assertIsNone(first_tree_error(low, [1, 0, 1], buffer.tree()))
        buffer.append(buffer.sequence())
        self.check(buffer, [1, 0, 1, 1, 0, 1], [("a", 1)])
        self.assertEqual(passed, [0, 0, 1, 0])

    def test_no_methods_but_the_listed_ones_change_it(self):
        buffer = filled(low, [1, 0, 1], [("a", 1)])
        before = buffer.copied()
        results = [[buffer.product(), buffer.product("a", 2), buffer.colors(), buffer.tree(), buffer.marks(),
                    len(buffer), buffer.sequence()] for _ in range(2)]
        self.assertEqual(results[0], results[1])
        self.assertTrue(buffer == before)


class AppendTest(BufferCheck):
    def test_values_that_are_no_sequence(self):
        for table in (low, ProductTable(lowest_rows(16))):
            for wrong in values_that_are_no_sequence(len(table)):
                with self.subTest(wrong=wrong):
                    for buffer in (SequenceBuffer(table), filled(table, [1, 0], [("a", 2)])):
                        self.refused(InvalidSequence, "value", wrong, buffer, "append", wrong)

    def test_lengths(self):
        buffer = filled(parity, [1] * 2000)
        self.refused(TooMany, "count", 2001, buffer, "append", [1])
        self.refused(TooMany, "count", 4000, buffer, "append", [1] * 2000)
        buffer.truncate(1500)
        self.refused(TooMany, "count", 2001, buffer, "append", (1,) * 501)
        buffer.append([0] * 500)
        self.assertEqual(len(buffer), 2000)
        self.assertEqual(buffer.product(), evaluate(parity, [1] * 1500 + [0] * 500))
        buffer.undo()
        buffer.append([0] * 499)
        buffer.append([1])
        self.refused(TooMany, "count", 2001, buffer, "append", [0])

    def test_a_wrong_sequence_comes_before_the_length(self):
        self.refused(InvalidSequence, "value", wrong := [2] * 10, filled(low, [1] * 1999), "append", wrong)
        self.refused(InvalidSequence, "value", wrong := [1] * 2001, filled(low, [1] * 1999), "append", wrong)


class TruncateTest(BufferCheck):
    def test_marks_up_to_the_length_stay(self):
        buffer = filled(low, [1, 0, 1, 1], [("d", 4), ("c", 2), ("b", 3), ("a", 0), ("e", 2)])
        buffer.truncate(4)
        self.check(buffer, [1, 0, 1, 1], [("a", 0), ("c", 2), ("e", 2), ("b", 3), ("d", 4)])
        buffer.truncate(3)
        self.check(buffer, [1, 0, 1], [("a", 0), ("c", 2), ("e", 2), ("b", 3)])
        buffer.truncate(2)
        self.check(buffer, [1, 0], [("a", 0), ("c", 2), ("e", 2)])
        buffer.truncate(0)
        self.check(buffer, [], [("a", 0)])
        buffer.append([0])
        self.check(buffer, [0], [("a", 0)])
        for _ in range(4):
            buffer.undo()
        self.check(buffer, [1, 0, 1, 1], [("a", 0), ("c", 2), ("e", 2), ("b", 3), ("d", 4)])

    def test_wrong_lengths(self):
        for wrong in values_that_are_no_integer() + [-1, 4, 5, 10 ** 29, -10 ** 29, "a"]:
            with self.subTest(wrong=wrong):
                buffer = filled(low, [1, 0, 1], [("a", 3)])
                self.refused(InvalidInteger, "value", wrong, buffer, "truncate", wrong)
        self.refused(InvalidInteger, "value", wrong := 1, SequenceBuffer(low), "truncate", wrong)
        SequenceBuffer(low).truncate(0)


class MarksTest(BufferCheck):
    def test_order_of_the_marks(self):
        buffer = filled(low, [1, 0, 1], [("z", 1), ("b", 3), ("a", 3), ("y", 0), ("x", 1), ("ab", 3), ("aa", 3)])
        marks = [("y", 0), ("x", 1), ("z", 1), ("a", 3), ("aa", 3), ("ab", 3), ("b", 3)]
        self.check(buffer, [1, 0, 1], marks)
        buffer.set_mark("b", 0)
        buffer.set_mark("y", 2)
        self.check(buffer, [1, 0, 1],
                   [("b", 0), ("x", 1), ("z", 1), ("y", 2), ("a", 3), ("aa", 3), ("ab", 3)])
        buffer.remove_mark("x")
        self.check(buffer, [1, 0, 1], [("b", 0), ("z", 1), ("y", 2), ("a", 3), ("aa", 3), ("ab", 3)])

    def test_the_end_is_the_place_if_none_is_named(self):
        buffer = SequenceBuffer(low)
        buffer.set_mark("a")
        buffer.append([1, 1])
        buffer.set_mark("b")
        buffer.set_mark("c", None)
        buffer.append([0])
        self.check(buffer, [1, 1, 0], [("a", 0), ("b", 2), ("c", 2)])
        buffer.set_mark("a")
        self.check(buffer, [1, 1, 0], [("b", 2), ("c", 2), ("a", 3)])

    def test_twenty_marks(self):
        buffer = filled(low, [1] * 19, [(name_of(number), number) for number in range(20)])
        self.assertEqual(len(buffer.marks()), 20)
        self.refused(TooMany, "count", 21, buffer, "set_mark", "zz", 3)
        self.refused(TooMany, "count", 21, buffer, "set_mark", "zz")
        buffer.set_mark(name_of(7), 0)
        self.assertEqual([len(buffer.marks()), buffer.marks()[name_of(7)]], [20, 0])
        buffer.remove_mark(name_of(3))
        buffer.set_mark("zz", 3)
        self.refused(TooMany, "count", 21, buffer, "set_mark", name_of(3), 3)
        buffer.truncate(18)
        self.assertEqual(len(buffer.marks()), 19)
        buffer.set_mark(name_of(3), 3)
        self.refused(TooMany, "count", 21, buffer, "set_mark", "zy")

    def test_wrong_names(self):
        for wrong in NOT_NAMES:
            with self.subTest(wrong=wrong):
                buffer = filled(low, [1, 0], [("a", 1)])
                for place in (None, 0, 9, "0"):
                    self.refused(InvalidName, "value", wrong, buffer, "set_mark", wrong, place)
                self.refused(InvalidName, "value", wrong, buffer, "set_mark", place=-1, name=wrong)

    def test_wrong_places(self):
        wrongs = [wrong for wrong in values_that_are_no_integer() if wrong is not None]
        for wrong in wrongs + [-1, 3, 4, 10 ** 29, -10 ** 29, "a"]:
            with self.subTest(wrong=wrong):
                buffer = filled(low, [1, 0], [(name_of(number), 1) for number in range(20)])
                self.refused(InvalidInteger, "value", wrong, buffer, "set_mark", "zz", wrong)
                self.refused(InvalidInteger, "value", wrong, buffer, "set_mark", name_of(3), wrong)
        self.refused(InvalidInteger, "value", wrong := 1, SequenceBuffer(low), "set_mark", "a", wrong)

    def test_removing_unknown_marks(self):
        for wrong in NOT_NAMES + ["b", "aa", "abcdefgh"]:
            with self.subTest(wrong=wrong):
                self.refused(UnknownName, "name", wrong, filled(low, [1, 0], [("a", 1)]), "remove_mark", wrong)
                self.refused(UnknownName, "name", wrong, SequenceBuffer(low), "remove_mark", wrong)
        buffer = filled(low, [1, 0], [("a", 1)])
        buffer.remove_mark("a")
        self.refused(UnknownName, "name", wrong := "a", buffer, "remove_mark", wrong)

    def test_marks_do_not_move_with_the_sequence(self):
        buffer = filled(low, [1, 0], [("a", 2), ("b", 1)])
        buffer.append([1, 1])
        self.check(buffer, [1, 0, 1, 1], [("b", 1), ("a", 2)])


class UndoTest(BufferCheck):
    def test_changes_that_leave_the_buffer_as_it_was(self):
        buffer = filled(low, [1, 0], [("a", 1)])
        for change in (lambda: buffer.truncate(2), lambda: buffer.set_mark("a", 1)):
            change()
            self.check(buffer, [1, 0], [("a", 1)])
            buffer.undo()
            self.check(buffer, [1, 0], [("a", 1)])
        for _ in range(5):
            buffer.truncate(2)
        for _ in range(5):
            buffer.undo()
            self.check(buffer, [1, 0], [("a", 1)])
        buffer.undo()
        self.check(buffer, [1, 0], [])
        buffer.undo()
        self.check(buffer, [], [])
        self.raised(NothingToUndo, buffer.undo)

    def test_an_undo_is_no_change(self):
        buffer = filled(low, [1], [("a", 0), ("b", 1)])
        buffer.undo()
        buffer.undo()
        self.check(buffer, [1], [])
        buffer.set_mark("c", 1)
        buffer.undo()
        self.check(buffer, [1], [])
        buffer.undo()
        self.check(buffer, [], [])

    def test_beyond_the_beginning(self):
        buffer = SequenceBuffer(low)
        for _ in range(2):
            self.refused(NothingToUndo, None, None, buffer, "undo")
        buffer.append([1])
        buffer.undo()
        self.refused(NothingToUndo, None, None, buffer, "undo")
        self.assertTrue(buffer == SequenceBuffer(low))

    def test_three_hundred_changes_and_one_more(self):
        for change in (("append", [1]), ("truncate", 0), ("set_mark", "a"), ("set_mark", "m", 0), ("remove_mark", "m")):
            buffer = filled(low, [1] * 3, [("m", 1)])
            for _ in range(298):
                buffer.set_mark("m", 1)
            self.refused(TooMany, "count", 301, buffer, *change)
            self.refused(TooMany, "count", 301, buffer, *change)
            buffer.undo()
            getattr(buffer, change[0])(*change[1:])
            self.refused(TooMany, "count", 301, buffer, "append", [1])

    def test_other_exceptions_come_before_too_many_changes(self):
        buffer = filled(low, [1] * 1990, [(name_of(number), 1) for number in range(20)])
        for _ in range(279):
            buffer.truncate(1990)
        self.refused(InvalidSequence, "value", wrong := [2], buffer, "append", wrong)
        self.refused(TooMany, "count", 2001, buffer, "append", [1] * 11)
        self.refused(TooMany, "count", 301, buffer, "append", [1] * 10)
        self.refused(InvalidInteger, "value", wrong := 1991, buffer, "truncate", wrong)
        self.refused(InvalidName, "value", wrong := "A", buffer, "set_mark", wrong, -1)
        self.refused(InvalidInteger, "value", wrong := -1, buffer, "set_mark", "zz", wrong)
        self.refused(TooMany, "count", 21, buffer, "set_mark", "zz", 1)
        self.refused(TooMany, "count", 301, buffer, "set_mark", name_of(2), 1)
        self.refused(UnknownName, "name", wrong := "zz", buffer, "remove_mark", wrong)
        self.refused(TooMany, "count", 301, buffer, "remove_mark", name_of(2))
        buffer.undo()
        buffer.remove_mark(name_of(2))
        self.refused(TooMany, "count", 301, buffer, "set_mark", "zz", 1)

    def test_undo_from_three_hundred_changes_to_the_beginning(self):
        buffer = SequenceBuffer(parity)
        for count in range(300):
            buffer.append([count % 2])
        for count in range(299, -1, -1):
            buffer.undo()
            self.assertEqual(buffer.sequence(), [place % 2 for place in range(count)])
        self.raised(NothingToUndo, buffer.undo)
        for _ in range(300):
            buffer.append([1])
        self.refused(TooMany, "count", 301, buffer, "append", [1])

    def test_refused_changes_are_not_undone(self):
        buffer = filled(low, [1, 0], [("a", 1)])
        for change in (("append", []), ("truncate", 3), ("set_mark", "A"), ("remove_mark", "b")):
            with self.assertRaises((ValueError, KeyError)):
                getattr(buffer, change[0])(*change[1:])
        buffer.undo()
        self.check(buffer, [1, 0], [])
        buffer.undo()
        self.check(buffer, [], [])


class ProductTest(BufferCheck):
    def test_places_and_marks(self):
        draw = random.Random(92)
        for table in TABLES[::5]:
            sequence = drawn_sequence(table, 9, draw)
            marks = [(name_of(place), place) for place in range(10)]
            buffer = filled(table, sequence, marks)
            self.assertEqual(buffer.product(), evaluate(table, sequence))
            for start in range(9):
                expected = evaluate(table, sequence, start)
                self.assertEqual([buffer.product(start), buffer.product(start=name_of(start)),
                                  buffer.product(name_of(start), None)], [expected] * 3)
                for stop in range(start + 1, 10):
                    expected = evaluate(table, sequence, start, stop)
                    results = [buffer.product(low_end, high_end) for low_end in (start, name_of(start))
                               for high_end in (stop, name_of(stop))]
                    self.assertEqual(results + [buffer.product(stop=stop, start=name_of(start))], [expected] * 5)
        self.assertEqual(buffer.product(stop=name_of(3)), evaluate(table, sequence, 0, 3))

    def test_changed_buffers(self):
        buffer = filled(parity, [1, 1, 1], [("a", 1), ("b", 3)])
        self.assertEqual([buffer.product("a", "b"), buffer.product("a"), buffer.product()], [0, 0, 1])
        buffer.append([1])
        self.assertEqual([buffer.product("a", "b"), buffer.product("a"), buffer.product("b"), buffer.product()],
                         [0, 1, 1, 0])
        buffer.set_mark("a", 2)
        self.assertEqual([buffer.product("a", "b"), buffer.product("a")], [1, 0])
        buffer.truncate(2)
        self.assertEqual(buffer.product(0, "a"), 0)
        self.assert_raises_with(UnknownName, "name", wrong := "b", buffer.product, wrong)
        self.assert_raises_with(UnknownName, "name", wrong := "b", buffer.product, 0, wrong)
        buffer.undo()
        self.assertEqual(buffer.product("a", "b"), 1)

    def test_unknown_names(self):
        buffer = filled(low, [1, 0, 1], [("a", 1), ("b", 2)])
        for wrong in ("c", "", "A", "1", "0", "ab", "a ", "abcdefghij"):
            for stop in (None, 0, 9, "b", "d", "", [], None):
                self.assert_raises_with(UnknownName, "name", wrong, buffer.product, wrong, stop)
            for start in (0, "a", -1, 9, None, [], True):
                self.assert_raises_with(UnknownName, "name", wrong, buffer.product, start, wrong)
                self.assert_raises_with(UnknownName, "name", wrong, buffer.product, stop=wrong, start=start)
        first, second = "c", "d"
        self.assert_raises_with(UnknownName, "name", first, buffer.product, first, second)
        self.assert_raises_with(UnknownName, "name", wrong := "x", SequenceBuffer(low).product, wrong)

    def test_wrong_bounds(self):
        buffer = filled(low, [1, 0, 1, 1], [("a", 1), ("b", 2), ("e", 4), ("f", 4), ("o", 0)])
        bounds = [(0, 0), (2, 1), (4, None), (5, None), (4, 4), (0, 5), (-1, 2), (-1, None), (0, -1), (0, 10 ** 29),
                  ("b", "a"), ("a", "a"), ("e", None), ("e", "f"), ("o", "o"), (0, "o"), (3, "b"), ("b", 1), ("b", 5),
                  (None, 2), (None, None), (True, 2), (0, True), (False, 3), ([0], 2), (0, [2]), ({}, 1), (0, {}),
                  ((0,), 1), (low, 1), ("a", True), (None, "a"), ("a", -1), ("a", [2])]
        for start, stop in bounds:
            with self.subTest(start=start, stop=stop):
                for error in (self.raised(InvalidRange, buffer.product, start, stop),
                              self.raised(InvalidRange, buffer.product, stop=stop, start=start)):
                    self.assertEqual([type(error.bounds), len(error.bounds)], [tuple, 2])
                    self.assertIs(error.bounds[0], start)
                    self.assertIs(error.bounds[1], stop)
        self.assertEqual(self.raised(InvalidRange, buffer.product, 4).bounds, (4, None))
        self.assertEqual(self.raised(InvalidRange, buffer.product, stop=0).bounds, (0, 0))

    def test_empty_buffers(self):
        buffer = filled(low, [], [("a", 0)])
        self.assertEqual(self.raised(InvalidRange, buffer.product).bounds, (0, None))
        self.assertEqual(self.raised(InvalidRange, buffer.product, "a").bounds, ("a", None))
        self.assertEqual(self.raised(InvalidRange, buffer.product, 0, 1).bounds, (0, 1))


class AnswersTest(BufferCheck):
    def check_answers(self, buffer, table):
        sequence = buffer.sequence()
        self.assertEqual(buffer.colors(), gap_colors(table, sequence) if sequence else [])
        if sequence:
            tree = buffer.tree()
            self.assertIs(type(tree), list)
            self.assertIsNone(first_tree_error(table, sequence, tree))
            self.assertLessEqual(tree_height(tree), height_bound(table))
            self.assertEqual(buffer.tree(), tree)
        else:
            first, second = self.raised(InvalidSequence, buffer.tree), self.raised(InvalidSequence, buffer.tree)
            self.assertEqual([first.value, type(first.value)], [[], list])
            self.assertIsNot(first.value, second.value)
            first.value.append(0)
            self.assertEqual(self.raised(InvalidSequence, buffer.tree).value, [])

    def test_a_buffer_that_grows_and_is_cut_and_undone(self):
        draw = random.Random(93)
        for table in TABLES[::6]:
            buffer = SequenceBuffer(table)
            self.check_answers(buffer, table)
            for _ in range(5):
                buffer.append(drawn_sequence(table, draw.randint(1, 20), draw))
                self.check_answers(buffer, table)
            for length in (len(buffer) // 2, 1, 0):
                buffer.truncate(length)
                self.check_answers(buffer, table)
            for _ in range(8):
                buffer.undo()
                self.check_answers(buffer, table)

    def test_two_thousand_elements(self):
        draw = random.Random(94)
        for table in (switch, ProductTable(cyclic_rows(16))):
            buffer = SequenceBuffer(table)
            for _ in range(8):
                buffer.append(drawn_sequence(table, 250, draw))
            self.check_answers(buffer, table)
            self.assertEqual(tree_height(buffer.tree()), tree_height(build_tree(table, buffer.sequence())))


class CopiesTest(BufferCheck):
    def test_equal_and_unequal_buffers(self):
        buffer = filled(low, [1, 0], [("a", 1), ("b", 1)])
        self.assertTrue(buffer == filled(ProductTable(LOW), (1, 0), [("b", 1), ("a", 1)]))
        self.assertFalse(buffer != filled(ProductTable(LOW), (1, 0), [("b", 1), ("a", 1)]))
        for other in (filled(parity, [1, 0], [("a", 1), ("b", 1)]), filled(low, [1, 1], [("a", 1), ("b", 1)]),
                      filled(low, [1, 0, 0], [("a", 1), ("b", 1)]), filled(low, [1, 0], [("a", 1), ("b", 2)]),
                      filled(low, [1, 0], [("a", 1)]), filled(low, [1, 0], [("a", 1), ("c", 1)]),
                      filled(low, [1, 0], [("a", 1), ("b", 1), ("c", 1)]), filled(low, [], []), SequenceBuffer(low),
                      low, None, [1, 0], (1, 0), {"a": 1}, 2):
            self.assertFalse(buffer == other)
            self.assertTrue(buffer != other)

    def test_past_changes_do_not_count(self):
        buffer = filled(low, [1, 0, 1], [("a", 1)])
        buffer.truncate(2)
        self.assertTrue(buffer == filled(low, [1, 0], [("a", 1)]))
        buffer.remove_mark("a")
        buffer.truncate(0)
        self.assertTrue(buffer == SequenceBuffer(low))
        for _ in range(3):
            buffer.undo()
        self.assertTrue(buffer == filled(low, [1, 0, 1], [("a", 1)]))

    def test_copies_go_their_own_ways(self):
        buffer = filled(low, [1, 0, 1], [("a", 1)])
        copied = buffer.copied()
        self.assertIs(type(copied), SequenceBuffer)
        self.assertTrue(copied == buffer)
        self.assertIsNot(copied, buffer)
        self.assertIs(copied.table(), low)
        buffer.append([0])
        buffer.set_mark("b", 4)
        buffer.set_mark("a", 0)
        self.check(copied, [1, 0, 1], [("a", 1)])
        copied.truncate(0)
        copied.set_mark("c")
        self.check(copied, [], [("c", 0)])
        self.check(buffer, [1, 0, 1, 0], [("a", 0), ("b", 4)])
        for _ in range(2):
            copied.undo()
        self.check(copied, [1, 0, 1], [("a", 1)])
        self.check(buffer, [1, 0, 1, 0], [("a", 0), ("b", 4)])

    def test_copies_can_undo_the_same_changes(self):
        buffer = filled(low, [1, 0, 1], [("a", 1), ("a", 2)])
        copied = buffer.copied()
        copied.undo()
        self.check(copied, [1, 0, 1], [("a", 1)])
        self.check(buffer, [1, 0, 1], [("a", 2)])
        buffer.undo()
        buffer.undo()
        third = copied.copied()
        copied.undo()
        self.check(copied, [1, 0, 1], [])
        copied.undo()
        self.raised(NothingToUndo, copied.undo)
        self.check(third, [1, 0, 1], [("a", 1)])
        self.check(buffer, [1, 0, 1], [])

    def test_copies_count_their_own_changes(self):
        buffer = filled(low, [1])
        for _ in range(298):
            buffer.truncate(1)
        copied = buffer.copied()
        for _ in range(2):
            one = copied if len(copied.sequence()) == 1 else buffer
            one.append([0])
            self.refused(TooMany, "count", 301, one, "append", [0])
        self.assertEqual([buffer.sequence(), copied.sequence()], [[1, 0], [1, 0]])

    def test_buffers_used_by_turns(self):
        draw = random.Random(95)
        pairs = [(SequenceBuffer(table), Model(), table) for table in (low, low, parity, switch)]
        stepper = ContentsTest()
        for _ in range(60):
            for buffer, model, table in pairs:
                stepper.step(buffer, model, len(table), draw)
        for buffer, model, table in pairs:
            self.check(buffer, model.sequence, model.ordered_marks())
