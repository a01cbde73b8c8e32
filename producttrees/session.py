"""Sessions: tables and buffers by name, which commands add, change and ask for."""

from producttrees.buffers import SequenceBuffer
from producttrees.commands import parsed_command
from producttrees.errors import DuplicateName, InvalidText, NothingToUndo, TooMany, UnknownName
from producttrees.levels import height_bound
from producttrees.runs import find_run
from producttrees.tables import ProductTable
from producttrees.transformations import Transformations
from producttrees.validation import is_list

_MOST_LINES = 60
_MOST_CHANGES = 300

_NEW = ("table", "transformations", "buffer")
_CHANGES = ("append", "truncate", "mark", "unmark")


class Session:
    """Tables and buffers by name.

    Each change replaces the dict of the tables or of the buffers, and a buffer by a changed copy, so that what a change
    has left behind stays as it is.
    """

    def __init__(self):
        self._tables = {}
        self._buffers = {}
        # For each command that has changed something: its line, and the tables and buffers before it.
        self._past = []

    def execute(self, line):
        """Execute a command and return its result."""
        command, kinds, arguments = parsed_command(line)
        for kind, name in zip(kinds, arguments):
            self._check_name(kind, name)
        if command == "undo":
            return self._undo()
        if command in _NEW or command in _CHANGES:
            return self._change(line, command, arguments)
        return self._answer(command, arguments)

    def execute_all(self, lines):
        """Execute several commands and return their results; if one of them raises an error, nothing changes."""
        if not is_list(lines, 0, _MOST_LINES):
            raise InvalidText(lines)
        trial = Session()
        trial._take_over(self)
        results = [trial.execute(line) for line in lines]
        self._take_over(trial)
        return results

    def commands(self):
        """Return the lines that have changed the session and have not been undone."""
        return [line for line, _, _ in self._past]

    def _take_over(self, other):
        """Become as the other session is."""
        self._tables = other._tables
        self._buffers = other._buffers
        self._past = list(other._past)

    def _check_name(self, kind, name):
        """Raise an error if the argument is a name that is in use and should not be, or the other way round."""
        if kind == "NAME" and (name in self._tables or name in self._buffers):
            raise DuplicateName(name)
        if kind == "TABLE" and name not in self._tables:
            raise UnknownName(name)
        if kind == "BUFFER" and name not in self._buffers:
            raise UnknownName(name)

    def _undo(self):
        """Restore what there was before the last change that has not been undone."""
        if not self._past:
            raise NothingToUndo()
        _, self._tables, self._buffers = self._past.pop()
        return "ok"

    def _change(self, line, command, arguments):
        """Carry out a command that changes the session."""
        if len(self._past) == _MOST_CHANGES:
            raise TooMany(_MOST_CHANGES + 1)
        name, rest = arguments[0], arguments[1:]
        tables, buffers = dict(self._tables), dict(self._buffers)
        if command == "table":
            tables[name] = ProductTable(rest[0])
        elif command == "transformations":
            tables[name] = Transformations(rest[0], rest[1]).table()
        elif command == "buffer":
            buffers[name] = SequenceBuffer(tables[rest[0]])
        else:
            buffers[name] = _changed_buffer(buffers[name], command, rest)
        self._past.append((line, self._tables, self._buffers))
        self._tables = tables
        self._buffers = buffers
        return "ok"

    def _answer(self, command, arguments):
        """Return the result of a command that changes nothing."""
        if command == "tables":
            return _listed(sorted(self._tables))
        if command == "buffers":
            return _listed(sorted(self._buffers))
        name, rest = arguments[0], arguments[1:]
        if command == "height":
            return str(height_bound(self._tables[name]))
        buffer = self._buffers[name]
        if command == "product":
            return str(buffer.product(*rest))
        if command == "show":
            return _listed(buffer.sequence())
        if command == "colors":
            return _listed(buffer.colors())
        if command == "marks":
            return _listed([f"{mark}:{place}" for mark, place in buffer.marks().items()])
        found = find_run(buffer.table(), buffer.sequence(), rest[0])
        return "none" if found is None else str(found[1][-1])


def _changed_buffer(buffer, command, arguments):
    """Return a copy of the buffer that the command has changed."""
    changed = buffer.copied()
    if command == "append":
        changed.append(arguments[0])
    elif command == "truncate":
        changed.truncate(arguments[0])
    elif command == "mark":
        changed.set_mark(*arguments)
    else:
        changed.remove_mark(arguments[0])
    return changed


def _listed(items):
    """Return the items with a space between each two of them."""
    return " ".join([str(item) for item in items]) if items else "none"
