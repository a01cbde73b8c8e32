"""The commands of a session, as lines of words."""

from producttrees.errors import InvalidCommand, InvalidText
from producttrees.validation import is_name, parse_integer, split_words

# What a line may have after its first word. A word before ".." stands once or more often.
_FORMS = {
    "table": ("NAME ROW ..",),
    "transformations": ("NAME STATES LETTER=TARGETS ..",),
    "buffer": ("NAME TABLE",),
    "append": ("BUFFER ELEMENT ..",),
    "truncate": ("BUFFER LENGTH",),
    "mark": ("BUFFER MARK", "BUFFER MARK PLACE"),
    "unmark": ("BUFFER MARK",),
    "undo": ("",),
    "product": ("BUFFER", "BUFFER START STOP"),
    "show": ("BUFFER",),
    "colors": ("BUFFER",),
    "marks": ("BUFFER",),
    "height": ("TABLE",),
    "run": ("BUFFER COUNT",),
    "tables": ("",),
    "buffers": ("",),
}


def parsed_command(line):
    """Return the command of a line, the kinds of its arguments, and the arguments; what may be repeated is a list."""
    try:
        words = split_words(line)
    except InvalidText:
        raise InvalidCommand(line) from None
    if not words or words[0] not in _FORMS:
        raise InvalidCommand(line)
    for form in _FORMS[words[0]]:
        kinds = split_words(form)
        arguments = _parsed_arguments(kinds, words[1:])
        if arguments is not None:
            return words[0], kinds, arguments
    raise InvalidCommand(line)


def _parsed_arguments(kinds, words):
    """Return the arguments if the words have these kinds, and otherwise None."""
    if kinds[-1:] == [".."]:
        last = len(kinds) - 2
        if len(words) <= last:
            return None
        single = _parsed_words(kinds[:last], words[:last])
        repeated = _parsed_repeated(kinds[last], words[last:])
        return None if single is None or repeated is None else single + [repeated]
    return _parsed_words(kinds, words) if len(words) == len(kinds) else None


def _parsed_repeated(kind, words):
    """Return the list of the arguments that words of one kind stand for, or None; letters are a dict."""
    arguments = _parsed_words([kind for _ in words], words)
    if arguments is None or kind != "LETTER=TARGETS":
        return arguments
    letters = {name: targets for name, targets in arguments}
    return letters if len(letters) == len(words) else None


def _parsed_words(kinds, words):
    """Return the arguments that words of these kinds stand for, or None."""
    arguments = [_parsed_word(kind, word) for kind, word in zip(kinds, words)]
    return None if None in arguments else arguments


def _parsed_word(kind, word):
    """Return the argument that a word of this kind stands for, or None."""
    parse = _PARSERS[kind]
    return parse(word)


def _parsed_name(word):
    """Return the name."""
    return word if is_name(word) else None


def _parsed_integer(word):
    """Return the integer, which may be negative."""
    return parse_integer(word, minimum=None)


def _parsed_bound(word):
    """Return the name or the integer."""
    return word if is_name(word) else _parsed_integer(word)


def _parsed_row(word):
    """Return the list of the integers between commas."""
    numbers = [_parsed_integer(number) for number in word.split(",")]
    return None if None in numbers else numbers


def _parsed_letter(word):
    """Return the name of a letter and its targets."""
    name, _, targets = word.partition("=")
    row = _parsed_row(targets)
    return None if row is None or not is_name(name) else (name, row)


_PARSERS = {
    "NAME": _parsed_name,
    "TABLE": _parsed_name,
    "BUFFER": _parsed_name,
    "MARK": _parsed_name,
    "STATES": _parsed_integer,
    "ELEMENT": _parsed_integer,
    "LENGTH": _parsed_integer,
    "PLACE": _parsed_integer,
    "COUNT": _parsed_integer,
    "START": _parsed_bound,
    "STOP": _parsed_bound,
    "ROW": _parsed_row,
    "LETTER=TARGETS": _parsed_letter,
}
