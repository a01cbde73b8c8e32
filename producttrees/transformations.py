"""Transformations: maps of a few states to these states, which words of letters describe."""

from producttrees.errors import InvalidElement, InvalidLetters, InvalidState, InvalidWord, TooMany, UnknownName
from producttrees.tables import LARGEST_TABLE, ProductTable
from producttrees.validation import is_integer, is_list, is_name, is_number_below, is_number_list

MOST_STATES = 5
MOST_LETTERS = 4
_LONGEST_WORD = 60


class Transformations:
    """The maps of all words over some letters, each of which maps every state; the object never changes."""

    def __init__(self, states, letters):
        if not is_integer(states) or not 1 <= states <= MOST_STATES:
            raise InvalidState(states)
        if not _are_letters(states, letters):
            raise InvalidLetters(letters)
        self._states = states
        self._letters = tuple([(name, tuple(targets)) for name, targets in letters.items()])
        words = _shortest_words(states, self._letters)
        self._contents = list(words)
        self._words = list(words.values())

    def __len__(self):
        return len(self._contents)

    def __eq__(self, other):
        return isinstance(other, Transformations) and self._states == other._states and self._letters == other._letters

    def states(self):
        """Return the number of states."""
        return self._states

    def letters(self):
        """Return the letters in the given order, each with the list of its targets."""
        return {name: list(targets) for name, targets in self._letters}

    def contents(self):
        """Return the targets of each element, in the order of the shortest words."""
        return list(self._contents)

    def table(self):
        """Return the product table of the elements; a*b applies a first and then b."""
        maps = self._contents
        return ProductTable([[maps.index(_composed(first, second)) for second in maps] for first in maps])

    def element_of(self, word):
        """Return the element of a word."""
        return self._contents.index(self._map_of(word))

    def word_of(self, element):
        """Return the shortest word of an element, as a list."""
        if not is_number_below(element, len(self._words)):
            raise InvalidElement(element)
        return list(self._words[element])

    def run(self, state, word):
        """Return the state that a word reaches from a state."""
        if not is_number_below(state, self._states):
            raise InvalidState(state)
        return self._map_of(word)[state]

    def _map_of(self, word):
        """Return the targets that a word reaches from all states."""
        if not is_list(word, 1, _LONGEST_WORD) or not all([is_name(letter) for letter in word]):
            raise InvalidWord(word)
        steps = dict(self._letters)
        for letter in word:
            if letter not in steps:
                raise UnknownName(letter)
        targets = tuple(range(self._states))
        for letter in word:
            targets = _composed(targets, steps[letter])
        return targets


def _are_letters(states, letters):
    """Tell whether the value is a dict from one to four names to lists of targets."""
    if not isinstance(letters, dict) or not 1 <= len(letters) <= MOST_LETTERS:
        return False
    return all([is_name(name) and is_number_list(letters[name], states, states, states) for name in letters])


def _composed(first, second):
    """Return the map that applies the first map and then the second one."""
    return tuple([second[state] for state in first])


def _shortest_words(states, letters):
    """Return a dict from the map of each element to its shortest word, in the order of these words."""
    words = {}
    # A shortest word without its last letter is itself a shortest word, so only these are lengthened.
    layer = [(tuple(range(states)), [])]
    while layer:
        longer = []
        for start, word in layer:
            for name, targets in letters:
                reached = _composed(start, targets)
                if reached in words:
                    continue
                if len(words) == LARGEST_TABLE:
                    raise TooMany(LARGEST_TABLE + 1)
                words[reached] = word + [name]
                longer.append((reached, word + [name]))
        layer = longer
    return words
