"""Promises [141] to [143]: sessions."""

import random
import unittest

from producttrees.buffers import SequenceBuffer
from producttrees.coloring import gap_colors
from producttrees.errors import (DuplicateName, InvalidCommand, InvalidInteger, InvalidLetters, InvalidRange,
                                 InvalidSequence, InvalidState, InvalidTable, InvalidText, NotAssociative,
                                 NothingToUndo, TooMany, UnknownName)
from producttrees.levels import height_bound
from producttrees.runs import find_run
from producttrees.session import Session
from producttrees.tables import ProductTable
from producttrees.transformations import Transformations
from tests.helpers import LOW, PARITY, RaiseCheck, cyclic_rows, lowest_rows

# A session with two tables and two buffers.
START = ["table low 0,0 0,1", "transformations maps 2 a=0,0 b=1,0", "buffer b low", "buffer c maps", "append b 1 1 0 1",
         "mark b m 2", "append c 0 1 2 3 0"]

# Commands that change nothing, whatever the session holds.
QUESTIONS = ["tables", "buffers", "show b", "marks b", "colors b", "product b", "product b 0 m", "run b 2",
             "height low", "show c", "marks c", "colors c", "product c 1 3", "run c 2", "height maps", "show d",
             "marks d", "product d"]

# Lines that are almost commands, with a semicolon between each two of them.
NO_COMMANDS = """
    x; TABLES; Tables; table; buffer; append; truncate; mark; unmark; product; show; colors; marks; height; run;
    transformations; tables x; tables 1; buffers b; undo 1; undo undo; undo b; show b b; show B; show b1; show 1;
    show abcdefghi; show b.; shows b; table x; table 0,0 0,1; table X 0; table x1 0; table x 0,; table x ,0;
    table x ,; table x 0,,0 0,0; table x 0, 0; table x a; table x 00; table x +0; table x 0.0; table x 0 1,;
    table x 0,0 0,-0; table x 0=0; table abcdefghi 0; tables 0;
    transformations t; transformations t 2; transformations t a=0,0; transformations t 2 a; transformations t 2 a=;
    transformations t 2 =0,0; transformations t 2 a=0,0 b; transformations t 2 a=0,0,; transformations t 2 a=0,,0;
    transformations t 2 a=0=0; transformations t 2 A=0,0; transformations t 2 a:0,0; transformations t 2 a=0,0 a=0,0;
    transformations t 2 a=0,0 b=1,0 a=1,1; transformations t x a=0,0; transformations t 02 a=0,0;
    transformations t 2 a=x,0; transformations t 2 a=00,0; transformations T 2 a=0,0; transformations t 2 a= 0,0;
    transformations t 2 abcdefghi=0,0; transformations t 2 a=0,0 a=1,0; transformations t 2 a1=0,0; buffer x;
    buffer x low low; buffer x 1; buffer X low; buffer x LOW; buffer low; buffer 1 low; append b; append b x;
    append b 1,0; append b 1 x; append b 01; append B 1; append 1 1; append b +1; append b --1;
    truncate b; truncate b x;
    truncate b 1 1; truncate b 01; truncate b -0; truncate 1 b; truncate 1; mark b; mark b 1; mark b M; mark b m 1 1;
    mark b m x; mark b m 01; mark b m1; mark b 1 m; mark b abcdefghi; mark 1 m; mark b m m; unmark b; unmark b 1;
    unmark b M; unmark b m 1; unmark 1 m; product b 0; product b m; product b 0 1 2; product b 0 M; product b 00 1;
    product b 0,1; product B; product 1; product b abcdefghi 1; product b 1 +2;
    colors; colors b 1; colors 1; marks b m; marks 1; height;
    height low 1; height 1; height LOW; run b; run b x; run b 2 2; run b 02; run 2; run b 2,; run 1 2; runs b 2;
    un do; undos
"""


def started(lines=START):
    session = Session()
    session.execute_all(lines)
    return session


def answers(session):
    """Return what the session answers to each question: a string, or the class and the fields of an exception."""
    found = [session.commands()]
    for line in QUESTIONS:
        try:
            found.append(session.execute(line))
        except (ValueError, LookupError) as error:
            found.append((type(error), vars(error)))
    return found


def listed(items):
    return " ".join(str(item) for item in items) or "none"


class SessionCheck(unittest.TestCase, RaiseCheck):
    def refused(self, expected, field, value, session, line):
        """Check that a command raises, and that the session stays as it was."""
        before = answers(session)
        error = self.raised(expected, session.execute, line)
        if field is not None:
            self.assertEqual(getattr(error, field), value)
            self.assertIs(type(getattr(error, field)), type(value))
        self.assertEqual(answers(session), before)
        return error


class CommandsTest(SessionCheck):
    def test_example(self):
        session = Session()
        lines = ["table p 0,1 1,0", "buffer b p", "append b 1 1 0 1", "mark b m 2", "product b m 4", "marks b", "undo",
                 "marks b"]
        self.assertEqual(session.execute_all(lines), ["ok", "ok", "ok", "ok", "1", "m:2", "ok", "none"])

    def test_an_empty_session(self):
        session = Session()
        self.assertEqual([session.execute("tables"), session.execute("buffers"), session.commands()],
                         ["none", "none", []])

    def test_tables(self):
        session = Session()
        self.assertEqual(session.execute("table p 0,1 1,0"), "ok")
        self.assertEqual(session.execute(line="table a 0"), "ok")
        rows = " ".join(",".join(map(str, row)) for row in cyclic_rows(16))
        self.assertEqual(session.execute("table abcdefgh " + rows), "ok")
        self.assertEqual(session.execute("tables"), "a abcdefgh p")
        heights = [session.execute(f"height {name}") for name in ("a", "abcdefgh", "p")]
        self.assertEqual(heights, ["3", str(height_bound(ProductTable(cyclic_rows(16)))), "6"])

    def test_transformations(self):
        session = Session()
        self.assertEqual(session.execute("transformations t 2 a=0,0 b=1,0"), "ok")
        self.assertEqual(session.execute("transformations u 2 b=1,0 a=0,0"), "ok")
        self.assertEqual(session.execute("transformations v 1 abcdefgh=0"), "ok")
        self.assertEqual(session.execute("tables"), "t u v")
        for name, letters in (("t", {"a": [0, 0], "b": [1, 0]}), ("u", {"b": [1, 0], "a": [0, 0]})):
            # The elements are numbered in the order of the letters in the line.
            table = Transformations(2, letters).table()
            session.execute(f"buffer b{name} {name}")
            for first in range(4):
                for second in range(4):
                    session.execute(f"append b{name} {first} {second}")
                    self.assertEqual(session.execute(f"product b{name}"), str(table.product(first, second)))
                    session.execute("undo")
        self.assertNotEqual(Transformations(2, {"a": [0, 0], "b": [1, 0]}).table(),
                            Transformations(2, {"b": [1, 0], "a": [0, 0]}).table())

    def test_buffers(self):
        session = started()
        self.assertEqual([session.execute("buffers"), session.execute("buffer aa low"), session.execute("buffers")],
                         ["b c", "ok", "aa b c"])
        self.assertEqual([session.execute("show aa"), session.execute("marks aa"), session.execute("colors aa")],
                         ["none", "none", "none"])
        self.assertEqual([session.execute("show b"), session.execute("truncate b 2"), session.execute("show b")],
                         ["1 1 0 1", "ok", "1 1"])
        self.assertEqual([session.execute("append b 0"), session.execute("show b")], ["ok", "1 1 0"])
        self.assertEqual([session.execute("truncate b 0"), session.execute("show b")], ["ok", "none"])

    def test_marks(self):
        session = started()
        self.assertEqual(session.execute("marks b"), "m:2")
        for line in ("mark b z", "mark b a 4", "mark b y 0", "mark b x 2"):
            self.assertEqual(session.execute(line), "ok")
        self.assertEqual(session.execute("marks b"), "y:0 m:2 x:2 a:4 z:4")
        self.assertEqual([session.execute("unmark b m"), session.execute("mark b y 1"), session.execute("marks b")],
                         ["ok", "ok", "y:1 x:2 a:4 z:4"])
        self.assertEqual([session.execute("truncate b 2"), session.execute("marks b")], ["ok", "y:1 x:2"])

    def test_products(self):
        session = started()
        results = [session.execute(f"product b {bounds}") for bounds in ("0 2", "0 m", "m 3", "m 4", "3 4", "0 4")]
        self.assertEqual(results, ["1", "1", "0", "0", "1", "0"])
        self.assertEqual([session.execute("product b"), session.execute("product c")], ["0", str(self.product_of_c())])

    def product_of_c(self):
        table = Transformations(2, {"a": [0, 0], "b": [1, 0]}).table()
        made = 0
        for element in (1, 2, 3, 0):
            made = table.product(made, element)
        return made

    def test_runs(self):
        session = started()
        self.assertEqual([session.execute("run b 2"), session.execute("run b 3"), session.execute("run b 6")],
                         ["2", "none", "none"])
        session.execute("append b 1 1 1")
        self.assertEqual([session.execute("run b 2"), session.execute("run b 4")], ["2", "7"])

    def test_beside_the_objects_that_the_commands_name(self):
        draw = random.Random(181)
        tables = {"low": ProductTable(LOW), "p": ProductTable(PARITY), "chain": ProductTable(lowest_rows(12))}
        session = Session()
        for name, table in tables.items():
            rows = " ".join(",".join(map(str, row)) for row in table.rows())
            self.assertEqual(session.execute(f"table {name} {rows}"), "ok")
            self.assertEqual(session.execute(f"height {name}"), str(height_bound(table)))
        buffers = {}
        for place, name in enumerate(draw.choices(sorted(tables), k=4)):
            session.execute(f"buffer {'wxyz'[place]} {name}")
            buffers["wxyz"[place]] = SequenceBuffer(tables[name])
        for _ in range(250):
            name = draw.choice("wxyz")
            buffer = buffers[name]
            line, change = self.drawn_change(name, buffer, draw)
            try:
                change()
            except (ValueError, KeyError) as error:
                self.refused(type(error), None, None, session, line)
            else:
                self.assertEqual(session.execute(line), "ok")
            self.check_buffer(session, name, buffer, draw)

    def drawn_change(self, name, buffer, draw):
        """Return a line, and the call that it stands for."""
        kind = draw.choice(["append", "append", "truncate", "mark", "mark", "place", "unmark"])
        length, mark = draw.randint(-1, len(buffer) + 1), draw.choice("abcd")
        if kind == "append":
            more = [draw.randint(-(draw.random() < 0.05), len(buffer.table()) - 1) for _ in range(draw.randint(1, 4))]
            return f"append {name} {listed(more)}", lambda: buffer.append(more)
        if kind == "truncate":
            return f"truncate {name} {length}", lambda: buffer.truncate(length)
        if kind == "mark":
            return f"mark {name} {mark}", lambda: buffer.set_mark(mark)
        if kind == "place":
            return f"mark {name} {mark} {length}", lambda: buffer.set_mark(mark, length)
        return f"unmark {name} {mark}", lambda: buffer.remove_mark(mark)

    def check_buffer(self, session, name, buffer, draw):
        self.assertEqual(session.execute(f"show {name}"), listed(buffer.sequence()))
        self.assertEqual(session.execute(f"marks {name}"), listed(f"{m}:{p}" for m, p in buffer.marks().items()))
        self.assertEqual(session.execute(f"colors {name}"), listed(buffer.colors()))
        bounds = [draw.choice(["a", "b", "c", 0, 1, 2, len(buffer)]) for _ in range(2)]
        try:
            expected = str(buffer.product(*bounds))
        except (ValueError, KeyError) as error:
            raised = self.raised(type(error), session.execute, f"product {name} {bounds[0]} {bounds[1]}")
            self.assertEqual(vars(raised), vars(error))
        else:
            self.assertEqual(session.execute(f"product {name} {bounds[0]} {bounds[1]}"), expected)
        if len(buffer):
            self.assertEqual(session.execute(f"product {name}"), str(buffer.product()))
            count = draw.randint(2, 6)
            run = find_run(buffer.table(), buffer.sequence(), count)
            self.assertEqual(session.execute(f"run {name} {count}"), "none" if run is None else str(run[1][-1]))

    def test_long_lines_and_sequences(self):
        session = started()
        for _ in range(19):
            session.execute("append b" + " 1" * 100)
        session.execute("append b" + " 0" * 96)
        self.refused(TooMany, "count", 2001, session, "append b 1")
        self.assertEqual(session.execute("show b"), listed([1, 1, 0, 1] + [1] * 1900 + [0] * 96))
        expected = gap_colors(ProductTable(LOW), [1, 1, 0, 1] + [1] * 1900 + [0] * 96)
        self.assertEqual(session.execute("colors b"), listed(expected))

    def test_results_are_strings(self):
        session = started()
        for line in QUESTIONS[:15]:
            self.assertIs(type(session.execute(line)), str)


class FormsTest(SessionCheck):
    def test_lines_that_are_no_commands(self):
        lines = [line.strip() for line in NO_COMMANDS.split(";")]
        lines += ["", " ", "\n", " undo", "undo ", "undo\n", "tables\n", "tables ", " tables", "show  b", "show b ",
                  " show b", "show\nb", "table x ", "table x  0", "table x 0 ", "table x 0;0 0;0", "append b 1  1",
                  "append b 1 ", "product b 0 1 ", "transformations t 2 a=0,0  b=1,0"]
        great = "1" * 31
        lines += [f"table x {great}", f"table x -{great}", f"append b {great}", f"append b 1 {great}",
                  f"truncate b {great}", f"mark b m -{great}", f"product b 0 {great}", f"product b {great} 1",
                  f"run b {great}", f"transformations t {great} a=0", f"transformations t 1 a={great}"]
        session = started()
        before = answers(session)
        for line in lines:
            with self.subTest(line=line):
                self.assert_raises_with(InvalidCommand, "value", line, session.execute, line)
        self.assertEqual(answers(session), before)

    def test_values_that_are_no_strings(self):
        session = started()
        for wrong in [None, True, 0, 1, [], ["undo"], (), ("undo",), {}, {"undo": 1}, session, ProductTable(LOW)]:
            self.assert_raises_with(InvalidCommand, "value", wrong, session.execute, wrong)
            self.assert_raises_with(InvalidCommand, "value", wrong, session.execute, line=wrong)

    def test_lines_that_differ_in_one_word(self):
        session = started()
        before = answers(session)
        for line in START + QUESTIONS + ["undo", "truncate b 1", "unmark b m", "mark b m"]:
            words = line.split(" ")
            for wrong in ([*words, ""], ["", *words], [*words[:1], "", *words[1:]], [words[0] + "x", *words[1:]],
                          [words[0].upper(), *words[1:]], [words[0][:-1] + "\n", *words[1:]]):
                value = " ".join(wrong)
                self.assert_raises_with(InvalidCommand, "value", value, session.execute, value)
        self.assertEqual(answers(session), before)

    def test_thirty_digits_and_negative_integers(self):
        session = started()
        great = int("1" * 30)
        for number in (great, -great, -1):
            self.refused(InvalidSequence, "value", [1, number], session, f"append b 1 {number}")
            self.refused(InvalidInteger, "value", number, session, f"truncate b {number}")
            self.refused(InvalidInteger, "value", number, session, f"mark b m {number}")
            self.refused(InvalidInteger, "value", number, session, f"run b {number}")
            self.refused(InvalidState, "value", number, session, f"transformations t {number} a=0")
            self.refused(InvalidLetters, "value", {"a": [0, number]}, session, f"transformations t 2 a=0,{number}")
            self.refused(InvalidTable, "value", [[0, number], [0, 0]], session, f"table t 0,{number} 0,0")
            self.refused(InvalidRange, "bounds", (number, 2), session, f"product b {number} 2")
            self.refused(InvalidRange, "bounds", (0, number), session, f"product b 0 {number}")
        self.assertEqual(session.execute("product b 0 4"), "0")

    def test_names_of_all_lengths_and_command_words_as_names(self):
        session = Session()
        for line in ("table table 0", "table undo 0", "buffer none table", "buffer append undo", "append append 0 0",
                     "mark append mark", "mark append ok 1", "append none 0"):
            self.assertEqual(session.execute(line), "ok")
        self.assertEqual(session.execute("tables"), "table undo")
        self.assertEqual(session.execute("buffers"), "append none")
        self.assertEqual(session.execute("marks append"), "ok:1 mark:2")
        self.assertEqual([session.execute("product append ok mark"), session.execute("height undo")], ["0", "3"])


class ErrorsTest(SessionCheck):
    def test_names_in_use(self):
        session = started()
        for name in ("low", "maps", "b", "c"):
            self.refused(DuplicateName, "name", name, session, f"table {name} 0")
            self.refused(DuplicateName, "name", name, session, f"transformations {name} 1 a=0")
            self.refused(DuplicateName, "name", name, session, f"buffer {name} low")
            # It comes before all but a wrong form.
            self.refused(DuplicateName, "name", name, session, f"table {name} 7,7 1")
            self.refused(DuplicateName, "name", name, session, f"transformations {name} 9 a=7")
            self.refused(DuplicateName, "name", name, session, f"buffer {name} x")
            self.refused(DuplicateName, "name", name, session, f"buffer {name} b")
            self.refused(InvalidCommand, None, None, session, f"table {name} x")
            self.refused(InvalidCommand, None, None, session, f"transformations {name} 1 a=0 a=0")
        self.assertEqual(session.execute("mark b low"), "ok")

    def test_unknown_names(self):
        session = started()
        for name in ("x", "lo", "lows", "m", "abcdefgh"):
            for line in (f"buffer y {name}", f"height {name}", f"append {name} 7 -1", f"truncate {name} -9",
                         f"mark {name} m", f"mark {name} m 99", f"unmark {name} m", f"product {name}",
                         f"product {name} m 9", f"show {name}", f"colors {name}", f"marks {name}", f"run {name} 99"):
                self.refused(UnknownName, "name", name, session, line)
        # The name of a buffer is none of a table, and the other way round.
        for line, name in (("buffer y b", "b"), ("height b", "b"), ("append low 1", "low"), ("show low", "low"),
                           ("truncate maps 0", "maps"), ("mark low m", "low"), ("unmark low m", "low"),
                           ("product low", "low"), ("colors low", "low"), ("marks low", "low"), ("run low 2", "low")):
            self.refused(UnknownName, "name", name, session, line)

    def test_what_the_objects_raise(self):
        session = started()
        self.refused(InvalidTable, "value", [[0, 0], [0]], session, "table x 0,0 0")
        self.refused(InvalidTable, "value", [[0], [0]], session, "table x 0 0")
        self.refused(InvalidTable, "value", [[1]], session, "table x 1")
        self.refused(InvalidTable, "value", [[0] * 17] * 17, session, "table x" + (" 0" + ",0" * 16) * 17)
        self.refused(NotAssociative, "triple", (1, 0, 1), session, "table x 0,0 1,0")
        self.refused(InvalidState, "value", 6, session, "transformations x 6 a=0,0,0,0,0,0")
        self.refused(InvalidState, "value", 0, session, "transformations x 0 a=0")
        self.refused(InvalidLetters, "value", {"a": [0]}, session, "transformations x 2 a=0")
        self.refused(InvalidLetters, "value", {name: [0] for name in "abcde"}, session,
                     "transformations x 1 a=0 b=0 c=0 d=0 e=0")
        self.refused(TooMany, "count", 17, session, "transformations x 3 a=1,0,2 b=1,2,0 c=0,0,1")
        self.refused(InvalidSequence, "value", [2], session, "append b 2")
        self.refused(InvalidSequence, "value", [0, 1, -1], session, "append b 0 1 -1")
        self.refused(InvalidInteger, "value", 5, session, "truncate b 5")
        self.refused(InvalidInteger, "value", 5, session, "mark b m 5")
        self.refused(UnknownName, "name", "x", session, "unmark b x")
        self.refused(UnknownName, "name", "x", session, "product b x m")
        self.refused(UnknownName, "name", "y", session, "product b 0 y")
        self.refused(UnknownName, "name", "x", session, "product b x y")
        self.refused(InvalidRange, "bounds", ("m", 2), session, "product b m 2")
        self.refused(InvalidRange, "bounds", (0, 5), session, "product b 0 5")
        self.refused(InvalidInteger, "value", 1, session, "run b 1")
        self.refused(InvalidInteger, "value", 7, session, "run b 7")

    def test_empty_buffers(self):
        session = started(["table t 0,0 0,1", "buffer b t"])
        self.refused(InvalidRange, "bounds", (0, None), session, "product b")
        self.refused(InvalidRange, "bounds", (0, 0), session, "product b 0 0")
        self.refused(InvalidSequence, "value", [], session, "run b 2")
        self.refused(InvalidSequence, "value", [], session, "run b 9")
        self.assertEqual([session.execute("truncate b 0"), session.execute("mark b m"), session.execute("marks b")],
                         ["ok", "ok", "m:0"])

    def test_twenty_marks(self):
        session = started()
        for number in range(19):
            session.execute(f"mark b a{'abcdefghijklmnopqrs'[number]}")
        self.refused(TooMany, "count", 21, session, "mark b x")
        self.assertEqual(session.execute("mark b m 1"), "ok")

    def test_three_hundred_commands_and_one_more(self):
        session = started()
        for count in range(len(START), 300):
            self.assertEqual(session.execute(f"mark b m {count % 4}"), "ok")
        changes = ["table x 0", "transformations x 1 a=0", "buffer x low", "append b 1", "truncate b 0", "mark b m",
                   "mark b m 0", "unmark b m"]
        for line in changes:
            self.refused(TooMany, "count", 301, session, line)
        # Before what the objects raise, and after wrong names and forms.
        for line in ("table x 7", "transformations x 9 a=0", "append b 7", "truncate b -1", "mark b m 99",
                     "unmark b x"):
            self.refused(TooMany, "count", 301, session, line)
        self.refused(DuplicateName, "name", "b", session, "table b 7")
        self.refused(DuplicateName, "name", "b", session, "buffer b y")
        self.refused(UnknownName, "name", "y", session, "buffer x y")
        self.refused(UnknownName, "name", "y", session, "append y 7")
        self.refused(InvalidCommand, None, None, session, "table x")
        for line in QUESTIONS[:15]:
            self.assertIs(type(session.execute(line)), str)
        self.refused(InvalidRange, "bounds", (3, 2), session, "product b 3 2")
        self.assertEqual([session.execute("undo"), session.execute("append b 0")], ["ok", "ok"])
        self.refused(TooMany, "count", 301, session, "append b 1")
        for _ in range(300):
            self.assertEqual(session.execute("undo"), "ok")
        self.refused(NothingToUndo, None, None, session, "undo")
        self.assertEqual(answers(session), answers(Session()))
        for first in "abcdefghijkl":
            for second in "abcdefghijklmnopqrstuvwxy":
                self.assertEqual(session.execute(f"table {first}{second} 0"), "ok")
        self.refused(TooMany, "count", 301, session, "table z 0")


class UndoTest(SessionCheck):
    def test_undo_to_the_beginning(self):
        session = Session()
        before = []
        for line in START + ["truncate b 1", "mark c x", "mark c x 1", "unmark c x", "buffer d low", "table e 0"]:
            before.append(answers(session))
            session.execute(line)
        while before:
            self.assertEqual(session.execute("undo"), "ok")
            self.assertEqual(answers(session), before.pop())
        self.refused(NothingToUndo, None, None, session, "undo")
        self.refused(NothingToUndo, None, None, session, "undo")

    def test_commands_that_change_nothing_or_are_refused_are_not_undone(self):
        session = started()
        before = answers(session)
        session.execute("append b 0")
        for line in QUESTIONS[:15]:
            session.execute(line)
        for line in ("append b 7", "table low 0", "unmark b x", "undo undo", "x", "height b", "table z 1"):
            with self.assertRaises((ValueError, KeyError)):
                session.execute(line)
        session.execute("undo")
        self.assertEqual(answers(session), before)

    def test_changes_that_leave_everything_as_it_was(self):
        session = started()
        for line in ("truncate b 4", "mark b m 2"):
            session.execute(line)
        self.assertEqual(session.commands(), START + ["truncate b 4", "mark b m 2"])
        session.execute("undo")
        session.execute("undo")
        self.assertEqual([session.commands(), session.execute("marks b")], [START, "m:2"])

    def test_names_can_be_used_again_after_an_undo(self):
        session = started()
        session.execute("table x 0")
        session.execute("undo")
        self.assertEqual(session.execute("buffer x low"), "ok")
        self.refused(DuplicateName, "name", "x", session, "table x 0")
        session.execute("undo")
        self.refused(UnknownName, "name", "x", session, "show x")
        self.assertEqual([session.execute("table x 0,1 1,0"), session.execute("height x")], ["ok", "6"])

    def test_a_buffer_that_was_undone_is_made_anew(self):
        session = started(["table t 0,0 0,1", "buffer b t", "append b 1 1"])
        session.execute("undo")
        session.execute("undo")
        session.execute("buffer b t")
        self.assertEqual(session.execute("show b"), "none")
        session.execute("undo")
        session.execute("undo")
        session.execute("table t 0,1 1,0")
        session.execute("buffer b t")
        session.execute("append b 1 1")
        self.assertEqual(session.execute("product b"), "0")

    def test_undo_goes_over_all_buffers_in_order(self):
        session = started()
        session.execute("append b 0")
        session.execute("append c 0")
        session.execute("mark b x 0")
        session.execute("undo")
        session.execute("undo")
        self.assertEqual([session.execute("show b"), session.execute("show c"), session.execute("marks b")],
                         ["1 1 0 1 0", "0 1 2 3 0", "m:2"])
        session.execute("undo")
        self.assertEqual([session.execute("show b"), session.execute("show c")], ["1 1 0 1", "0 1 2 3 0"])


class AllTest(SessionCheck):
    def test_results(self):
        session = Session()
        results = session.execute_all(lines=START + ["show b", "undo", "marks b"])
        self.assertEqual([results, type(results)], [["ok"] * 7 + ["1 1 0 1", "ok", "m:2"], list])
        self.assertEqual(session.execute_all(("show c", "tables")), ["none", "low maps"])
        self.assertEqual([session.execute_all([]), session.execute_all(())], [[], []])

    def test_a_line_that_fails(self):
        lines = ["append b 0", "mark b x", "undo", "undo", "undo", "undo", "truncate b 1", "buffer e maps", "table f 0",
                 "append e 1 2"]
        session = started()
        before = answers(session)
        for wrong, expected in (("append b 7", InvalidSequence), ("x", InvalidCommand), ("table low 0", DuplicateName),
                                ("show z", UnknownName), ("product b 4 4", InvalidRange), (None, InvalidCommand),
                                (7, InvalidCommand), (["undo"], InvalidCommand), ("run b 1", InvalidInteger)):
            for place in range(len(lines) + 1):
                for form in (list, tuple):
                    self.raised(expected, session.execute_all, form(lines[:place] + [wrong] + lines[place:]))
                    self.assertEqual(answers(session), before)
        self.assertEqual(session.execute_all(lines), ["ok"] * len(lines))
        self.assertNotEqual(answers(session), before)

    def test_too_many_undos(self):
        session = started()
        before = answers(session)
        self.raised(NothingToUndo, session.execute_all, ["undo"] * 8)
        self.assertEqual(answers(session), before)
        self.assertEqual(session.execute_all(["undo"] * 7), ["ok"] * 7)
        self.assertEqual(answers(session), answers(Session()))

    def test_the_first_error_is_raised(self):
        session = started()
        error = self.raised(InvalidSequence, session.execute_all, ["append b 5", "append b 6", "x"])
        self.assertEqual(error.value, [5])
        self.assertEqual(self.raised(InvalidCommand, session.execute_all, ["append b 1", "x", "append b 6"]).value, "x")

    def test_numbers_of_lines(self):
        session = started()
        self.assertEqual(session.execute_all(["append b 1"] * 60), ["ok"] * 60)
        before = answers(session)
        for wrong in (["append b 1"] * 61, ("undo",) * 61, [None] * 61, ["x"] * 110):
            self.assert_raises_with(InvalidText, "value", wrong, session.execute_all, wrong)
            self.assertEqual(answers(session), before)

    def test_values_that_are_no_lists(self):
        session = started()
        for wrong in [None, True, 0, 60, "", "undo", "tables\nundo", {}, {0: "undo"}, {"undo": 1}, session]:
            self.assert_raises_with(InvalidText, "value", wrong, session.execute_all, wrong)
            self.assert_raises_with(InvalidText, "value", wrong, session.execute_all, lines=wrong)

    def test_items_that_are_no_strings(self):
        session = started()
        before = answers(session)
        for wrong in [None, True, 0, [], ["undo"], ("undo",), {}, session]:
            for lines in ([wrong], ["append b 1", wrong], ["append b 1", wrong, "x"]):
                self.assert_raises_with(InvalidCommand, "value", wrong, session.execute_all, lines)
                self.assertEqual(answers(session), before)

    def test_the_limit_of_commands(self):
        session = started()
        for _ in range(4):
            session.execute_all(["append b 1"] * 60)
        session.execute_all(["append b 1"] * 50)
        before = answers(session)
        self.assertEqual(self.raised(TooMany, session.execute_all, ["append b 1"] * 4).count, 301)
        self.assertEqual(answers(session), before)
        self.assertEqual(session.execute_all(["append b 1"] * 3 + ["undo", "append b 0"]), ["ok"] * 5)
        self.assertEqual(len(session.commands()), 300)

    def test_passed_lists_are_not_changed(self):
        lines = ["append b 1", "undo"]
        started().execute_all(lines)
        self.assertEqual(lines, ["append b 1", "undo"])


class CommandsListTest(SessionCheck):
    def test_lines_that_changed_the_session(self):
        session = started()
        self.assertEqual(session.commands(), START)
        for line in QUESTIONS[:15]:
            session.execute(line)
        with self.assertRaises(ValueError):
            session.execute("append b 7")
        session.execute("append b 1 0")
        self.assertEqual(session.commands(), START + ["append b 1 0"])
        session.execute("undo")
        self.assertEqual(session.commands(), START)
        session.execute_all(["undo", "undo", "mark b z", "show b"])
        self.assertEqual(session.commands(), START[:-2] + ["mark b z"])
        while session.commands():
            session.execute("undo")
        self.assertEqual(session.commands(), [])

    def test_a_new_list(self):
        session = started()
        session.commands().clear()
        session.commands().append("x")
        self.assertEqual([session.commands(), type(session.commands())], [START, list])
        self.assertEqual(session.execute_all(session.commands()[:0] + ["undo"]), ["ok"])

    def test_a_session_is_what_its_commands_make_of_it(self):
        draw = random.Random(182)
        session = started()
        for _ in range(300):
            line = draw.choice(["append b 1", "append c 2 1", "undo", "truncate b 1", "mark b x", "mark c y 1",
                                "unmark b x", "buffer d low", "append d 1 1", "table e 0,1 1,0", "truncate c 0",
                                "buffer f e", "undo"])
            try:
                session.execute(line)
            except (ValueError, LookupError):
                continue
            again = Session()
            for command in session.commands():
                self.assertEqual(again.execute(command), "ok")
            self.assertEqual(answers(again), answers(session))


class TwoSessionsTest(SessionCheck):
    def test_two_sessions_used_by_turns(self):
        first, second = Session(), Session()
        for line in START:
            first.execute(line)
            if line != START[0]:
                with self.assertRaises((ValueError, KeyError)):
                    second.execute("append b 1")
        self.assertEqual(answers(second), answers(Session()))
        second.execute_all(["table low 0,1 1,0", "buffer b low", "append b 1 1 0 1"])
        self.assertEqual([first.execute("product b"), second.execute("product b")], ["0", "1"])
        first.execute("undo")
        second.execute("mark b m 3")
        self.assertEqual([first.execute("marks b"), second.execute("marks b")], ["m:2", "m:3"])
        self.assertEqual([first.commands(), len(second.commands())], [START[:-1], 4])
        self.raised(InvalidCommand, second.execute_all, ["append b 0", "x"])
        self.assertEqual([first.execute("show b"), second.execute("show b")], ["1 1 0 1", "1 1 0 1"])

    def test_equality(self):
        session = Session()
        self.assertTrue(session == session)
        self.assertFalse(session == Session())
