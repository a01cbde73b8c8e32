"""Text formats: tables, sequences, trees, colors and transformations, written and parsed."""

from producttrees.errors import InvalidColors, InvalidLetters, InvalidLine, InvalidSequence, InvalidText
from producttrees.tables import LARGEST_TABLE, LONGEST_SEQUENCE, ProductTable, check_table
from producttrees.transformations import MOST_LETTERS, MOST_STATES, Transformations
from producttrees.trees import MOST_NODES, check_tree
from producttrees.validation import MOST_DIGITS, is_color_list, is_name, is_number_list, parse_integer

_ITEMS_IN_LINE = 40


def format_table(table):
    """Return the text of a table."""
    check_table(table)
    size = len(table)
    width = len(str(size - 1))
    lines = [_line(["row"] + [str(element).zfill(width) for element in row]) for row in table.rows()]
    return _text("table", size, lines)


def parse_table(text):
    """Return the table of a text."""
    reader = LineReader(text)
    size = reader.header("table", LARGEST_TABLE)
    rows = [reader.numbers("row", size, size, 0, size - 1) for _ in range(size)]
    reader.finish()
    return ProductTable(rows)


def format_sequence(sequence):
    """Return the text of a sequence."""
    if not is_number_list(sequence, 1, LONGEST_SEQUENCE, LARGEST_TABLE):
        raise InvalidSequence(sequence)
    return _items_text("sequence", sequence)


def parse_sequence(text):
    """Return the list of a sequence's text."""
    return _parsed_items(text, "sequence", 0, LARGEST_TABLE - 1)


def format_tree(tree):
    """Return the text of a tree."""
    check_tree(tree)
    lines = []
    for node in tree:
        lines.append(_line(["node"] + list(node)) if isinstance(node, tuple) else _line(["leaf", node]))
    return _text("tree", len(tree), lines)


def parse_tree(text):
    """Return the nodes of a tree's text."""
    reader = LineReader(text)
    count = reader.header("tree", MOST_NODES)
    nodes = [_parsed_node(reader, index) for index in range(count)]
    reader.finish()
    check_tree(nodes)
    return nodes


def format_colors(colors):
    """Return the text of colors."""
    if not is_color_list(colors, 1, LONGEST_SEQUENCE):
        raise InvalidColors(colors)
    return _items_text("colors", colors)


def parse_colors(text):
    """Return the list of the text of colors."""
    return _parsed_items(text, "colors", 1, None)


def format_transformations(transformations):
    """Return the text of transformations."""
    if not isinstance(transformations, Transformations):
        raise InvalidLetters(transformations)
    lines = [_line(["letter", name] + targets) for name, targets in transformations.letters().items()]
    return _text("transformations", transformations.states(), lines)


def parse_transformations(text):
    """Return the Transformations object of a text."""
    reader = LineReader(text)
    states = reader.header("transformations", MOST_STATES)
    letters = {}
    while not letters or (reader.has_more() and len(letters) < MOST_LETTERS):
        words = reader.words()
        if len(words) < 2 or words[0] != "letter" or not is_name(words[1]) or words[1] in letters:
            reader.fail()
        letters[words[1]] = reader.parsed(words[2:], states, states, 0, states - 1)
    reader.finish()
    return Transformations(states, letters)


class LineReader:
    """Goes through the lines of a text, apart from the blank ones."""

    def __init__(self, text):
        if not isinstance(text, str):
            raise InvalidText(text)
        lines = text.split("\n")
        self._waiting = []
        for index, line in enumerate(lines):
            words = [word for word in line.split(" ") if word != ""]
            if words:
                self._waiting.append((index, words))
        self._waiting.reverse()
        self._count = len(lines)
        self._index = 0

    def has_more(self):
        """Tell whether there is another line."""
        return len(self._waiting) > 0

    def words(self):
        """Return the words of the next line, which has to be there."""
        if not self._waiting:
            raise InvalidLine(self._count)
        self._index, words = self._waiting.pop()
        return words

    def fail(self):
        """Raise the error of the line that has been read last."""
        raise InvalidLine(self._index)

    def finish(self):
        """Raise an error if there is another line."""
        if self._waiting:
            self.words()
            self.fail()

    def header(self, word, most):
        """Return the number of a header."""
        return self.numbers(word, 1, 1, 1, most)[0]

    def numbers(self, word, least, most, minimum, maximum):
        """Return the numbers of the next line, which begins with the word."""
        words = self.words()
        if words[0] != word:
            self.fail()
        return self.parsed(words[1:], least, most, minimum, maximum)

    def parsed(self, words, least, most, minimum, maximum):
        """Return the numbers, from least to most of them, that are written in the line that has been read last."""
        numbers = [_parsed_number(word, minimum, maximum) for word in words]
        if not least <= len(numbers) <= most or None in numbers:
            self.fail()
        return numbers


def _parsed_number(word, minimum, maximum):
    """Return the number within the limits that the digits represent, or None; zeros may lead."""
    if len(word) > MOST_DIGITS:
        return None
    return parse_integer(word.lstrip("0") or "0", minimum=minimum, maximum=maximum)


def _parsed_node(reader, index):
    """Return the node with this index from the next line."""
    words = reader.words()
    if words[0] == "leaf":
        return reader.parsed(words[1:], 1, 1, 0, LARGEST_TABLE - 1)[0]
    if words[0] != "node":
        reader.fail()
    return tuple(reader.parsed(words[1:], 0, MOST_NODES, 0, index - 1))


def _parsed_items(text, word, minimum, maximum):
    """Return the items of a text of a sequence or of colors."""
    reader = LineReader(text)
    count = reader.header(word, LONGEST_SEQUENCE)
    items = []
    while len(items) < count:
        items.extend(reader.numbers("items", 1, count - len(items), minimum, maximum))
    reader.finish()
    return items


def _items_text(word, items):
    """Return the text of a sequence or of colors."""
    starts = range(0, len(items), _ITEMS_IN_LINE)
    return _text(word, len(items), [_line(["items"] + list(items[at:at + _ITEMS_IN_LINE])) for at in starts])


def _text(word, count, lines):
    """Return a text of a header and lines."""
    return "\n".join([_line([word, count])] + lines)


def _line(words):
    """Return a line of words and numbers."""
    return " ".join([str(word) for word in words])
