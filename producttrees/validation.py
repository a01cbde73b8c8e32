"""Checks of basic values, and the reading of integers and words from strings."""

from producttrees.errors import InvalidInteger, InvalidText

MOST_DIGITS = 30
_MOST_LETTERS = 8


def is_integer(value):
    """Tell whether the value is an integer; True and False are none."""
    return isinstance(value, int) and not isinstance(value, bool)


def is_name(value):
    """Tell whether the value is a string of one to eight letters from a to z."""
    if not isinstance(value, str) or not 1 <= len(value) <= _MOST_LETTERS:
        return False
    return all(["a" <= letter <= "z" for letter in value])


def is_list(value, least, most):
    """Tell whether the value is a list with a length from least to most; a tuple counts as a list."""
    return isinstance(value, (list, tuple)) and least <= len(value) <= most


def is_number_below(value, limit):
    """Tell whether the value is an integer from 0 to limit - 1."""
    return is_integer(value) and 0 <= value < limit


def is_number_list(value, least, most, limit):
    """Tell whether the value is a list as in is_list, with items as in is_number_below."""
    return is_list(value, least, most) and all([is_number_below(item, limit) for item in value])


def is_color_list(value, least, most):
    """Tell whether the value is a list as in is_list, with integers of at least 1 as items."""
    return is_list(value, least, most) and all([is_integer(item) and item >= 1 for item in value])


def is_range(start, stop, length):
    """Tell whether the values are the bounds of a non-empty range of a sequence of this length."""
    return is_integer(start) and is_integer(stop) and 0 <= start < stop <= length


def parse_integer(text, *, minimum=0, maximum=None):
    """Return the integer within the limits that the text represents, or None."""
    for limit in (minimum, maximum):
        if limit is not None and not is_integer(limit):
            raise InvalidInteger(limit)
    if not isinstance(text, str) or not _is_decimal(text):
        return None
    number = int(text)
    if minimum is not None and number < minimum:
        return None
    if maximum is not None and number > maximum:
        return None
    return number


def _is_decimal(text):
    """Tell whether the text represents an integer with at most thirty digits."""
    if text == "0":
        return True
    digits = text.removeprefix("-")
    # isdigit alone would also accept digits of other scripts.
    if not digits.isascii() or not digits.isdigit():
        return False
    return digits[0] != "0" and len(digits) <= MOST_DIGITS


def split_words(text):
    """Return the words of a text in which exactly one space stands between two words."""
    if not isinstance(text, str) or "\n" in text:
        raise InvalidText(text)
    if text == "":
        return []
    words = text.split(" ")
    # A space too many leaves an empty string beside it.
    if "" in words:
        raise InvalidText(text)
    return words
