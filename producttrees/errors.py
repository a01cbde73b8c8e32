"""All exceptions of the package.

A field holds the very object that was passed. The message is what Python makes of the
arguments, so no class words one of its own.
"""


class ProductError(ValueError):
    """An argument is invalid."""


class MissingError(KeyError):
    """A name is unknown."""


class StateError(LookupError):
    """An operation is not possible now."""


class InvalidInteger(ProductError):
    """The value is not an integer, or not one within the required limits."""

    def __init__(self, value):
        self.value = value


class InvalidName(ProductError):
    """The value is not a name."""

    def __init__(self, value):
        self.value = value


class InvalidText(ProductError):
    """The value is not a text of the required form."""

    def __init__(self, value):
        self.value = value


class InvalidTable(ProductError):
    """The value is not a product table, or not the rows of one."""

    def __init__(self, value):
        self.value = value


class NotAssociative(ProductError):
    """The multiplication is not associative for the triple of elements."""

    def __init__(self, triple):
        self.triple = triple


class InvalidElement(ProductError):
    """The value is not an element of the table."""

    def __init__(self, value):
        self.value = value


class InvalidSequence(ProductError):
    """The value is not a sequence of the table."""

    def __init__(self, value):
        self.value = value


class InvalidRange(ProductError):
    """The bounds (start, stop) are no range of the sequence."""

    def __init__(self, bounds):
        self.bounds = bounds


class InvalidTree(ProductError):
    """The value is not a tree."""

    def __init__(self, value):
        self.value = value


class FaultyTree(ProductError):
    """The tree is not valid; the fields are those of the first error in it."""

    def __init__(self, kind, index):
        self.kind = kind
        self.index = index


class InvalidLevel(ProductError):
    """The value is not the number of a level that fits."""

    def __init__(self, value):
        self.value = value


class InvalidOrder(ProductError):
    """The value does not list every element exactly once."""

    def __init__(self, value):
        self.value = value


class InvalidColors(ProductError):
    """The value is not a list of colors."""

    def __init__(self, value):
        self.value = value


class InvalidLetters(ProductError):
    """The value is not a dict of letters, or not a Transformations object."""

    def __init__(self, value):
        self.value = value


class InvalidWord(ProductError):
    """The value is not a word of letters."""

    def __init__(self, value):
        self.value = value


class InvalidState(ProductError):
    """The value is not a state, or not a number of states."""

    def __init__(self, value):
        self.value = value


class InvalidMap(ProductError):
    """The value is not a map from one table to the other."""

    def __init__(self, value):
        self.value = value


class NotHomomorphism(ProductError):
    """The map does not preserve the product of the pair of elements."""

    def __init__(self, pair):
        self.pair = pair


class InvalidHeights(ProductError):
    """The value is not a table of heights."""

    def __init__(self, value):
        self.value = value


class InvalidCertificate(ProductError):
    """The value is not formed as a certificate."""

    def __init__(self, value):
        self.value = value


class InvalidCommand(ProductError):
    """The value is not a command of a session."""

    def __init__(self, value):
        self.value = value


class InvalidLine(ProductError):
    """The line with this index has not the form that its place requires."""

    def __init__(self, index):
        self.index = index


class DuplicateName(ProductError):
    """The name is already in use."""

    def __init__(self, name):
        self.name = name


class TooMany(ProductError):
    """There are, or would be, this many of something, which is more than its limit."""

    def __init__(self, count):
        self.count = count


class UnknownName(MissingError):
    """Nothing has this name."""

    def __init__(self, name):
        self.name = name


class NothingToUndo(StateError):
    """No change is left to undo."""


class NotInGroup(StateError):
    """The cell of the element is not a group cell."""

    def __init__(self, element):
        self.element = element
