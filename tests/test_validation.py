"""Promises [12] to [14]: integers, names, and the reading of integers and words from strings."""

import unittest

from producttrees.errors import InvalidInteger, InvalidText
from producttrees.tables import ProductTable
from producttrees.validation import is_integer, is_name, parse_integer, split_words
from tests.helpers import RaiseCheck, values_that_are_no_integer


class IntegerTest(unittest.TestCase):
    def test_example(self):
        results = [is_integer(7), is_integer(True), is_name("abc"), is_name("Abc"), is_name("")]
        self.assertEqual(results, [True, False, True, False, False])

    def test_integers_of_any_size(self):
        for value in (0, 1, -1, 2, 15, -7, 10 ** 29, 10 ** 30 - 1, -10 ** 30 + 1, 10 ** 30, 10 ** 100, -10 ** 100):
            self.assertIs(is_integer(value), True)

    def test_other_values(self):
        for value in values_that_are_no_integer() + [[], (), [[1]], {1: 1}, "12", "abc", 1.0]:
            with self.subTest(value=value):
                self.assertIs(is_integer(value), False)

    def test_by_name(self):
        self.assertIs(is_integer(value=3), True)
        self.assertIs(is_name(value="b"), True)


class NameTest(unittest.TestCase):
    def test_names(self):
        for value in ("a", "z", "m", "ab", "zzzzzzz", "abcdefgh", "hijklmno", "pqrstuvw", "xyz", "none", "append"):
            with self.subTest(value=value):
                self.assertIs(is_name(value), True)

    def test_lengths(self):
        for length in range(0, 13):
            with self.subTest(length=length):
                self.assertIs(is_name("q" * length), 1 <= length <= 8)
        self.assertIs(is_name("a" * 4000), False)

    def test_other_letters(self):
        signs = [chr(code) for code in range(32, 127) if not "a" <= chr(code) <= "z"]
        for sign in signs + ["\n", "\t", "\u00e4", "\u00df", "\u0430", "\uff41", "`", "{"]:
            for value in (sign, sign + "abc", "ab" + sign + "c", "abc" + sign):
                with self.subTest(value=value):
                    self.assertIs(is_name(value), False)

    def test_values_that_are_no_string(self):
        letters = [["a"], ["a", "b"], ("a",), {"a": 1}, [], (), {}, b"abc"]
        for value in letters + [None, True, False, 0, 7, 10 ** 40, ProductTable([[0]])]:
            with self.subTest(value=value):
                self.assertIs(is_name(value), False)


class ParseIntegerTest(unittest.TestCase, RaiseCheck):
    def test_example(self):
        results = [parse_integer("12"), parse_integer("012"), parse_integer("-3"),
                   parse_integer("-3", minimum=None), parse_integer("9", maximum=8)]
        self.assertEqual(results, [12, None, None, -3, None])

    def test_written_integers(self):
        for number in list(range(-120, 1200)) + [10 ** k for k in range(30)] + [10 ** 30 - 1, 1 - 10 ** 30]:
            with self.subTest(number=number):
                result = parse_integer(str(number), minimum=None)
                self.assertEqual(result, number)
                self.assertIs(type(result), int)

    def test_zero(self):
        self.assertEqual(parse_integer("0"), 0)
        self.assertIs(type(parse_integer("0")), int)
        for text in ("-0", "+0", "00", "-00", "000", "0 ", " 0"):
            with self.subTest(text=text):
                self.assertIsNone(parse_integer(text, minimum=None))

    def test_texts_that_are_no_integer(self):
        for text in ("", "-", "--1", "- 1", "+1", "01", "-01", "007", " 1", "1 ", "1\n", "\n1", "1-", "1_000", "1,0",
                     "1.0", "1e3", "0x1", "0b1", "a", "12a", "a12", "1 2", "one", "None", "True", "\u0661", "\u00b2",
                     "1\u0661", "\uff11", "-\uff11", "~", "/", ":", "1/", "1:", "0-", "9" + "\t"):
            with self.subTest(text=text):
                self.assertIsNone(parse_integer(text, minimum=None))

    def test_thirty_digits(self):
        self.assertEqual(parse_integer("9" * 30), 10 ** 30 - 1)
        self.assertEqual(parse_integer("1" + "0" * 29), 10 ** 29)
        self.assertEqual(parse_integer("-" + "9" * 30, minimum=None), 1 - 10 ** 30)
        for text in ("1" + "0" * 30, "9" * 31, "-1" + "0" * 30, "-" + "9" * 31, "1" * 4000, "0" * 31, "-" + "1" * 3999):
            with self.subTest(text=text):
                self.assertIsNone(parse_integer(text, minimum=None))

    def test_values_that_are_no_string(self):
        for value in [None, True, False, 0, 7, -3, ["1"], ("1",), [], (), {}, {"1": 1}, b"1", ProductTable([[0]])]:
            with self.subTest(value=value):
                self.assertIsNone(parse_integer(value))
                self.assertIsNone(parse_integer(value, minimum=None, maximum=None))

    def test_limits(self):
        for minimum in range(-12, 13):
            for maximum in range(-12, 13):
                for number in range(-13, 14):
                    expected = number if minimum <= number <= maximum else None
                    found = parse_integer(str(number), minimum=minimum, maximum=maximum)
                    self.assertEqual(found, expected)

    def test_limits_of_none_and_default_limits(self):
        self.assertEqual(parse_integer("-5", minimum=None, maximum=-5), -5)
        self.assertIsNone(parse_integer("-4", minimum=None, maximum=-5))
        self.assertEqual(parse_integer("5", minimum=5, maximum=None), 5)
        self.assertIsNone(parse_integer("4", minimum=5, maximum=None))
        self.assertEqual(parse_integer("9" * 30, maximum=None), 10 ** 30 - 1)
        self.assertIsNone(parse_integer("-1", maximum=5))
        self.assertIsNone(parse_integer("-1"))
        self.assertEqual(parse_integer("9" * 30, minimum=10 ** 30 - 1, maximum=10 ** 30 - 1), 10 ** 30 - 1)

    def test_wrong_limits_whatever_the_text_is(self):
        wrong = [limit for limit in values_that_are_no_integer() if limit is not None]
        for text in ("12", "012", "", "x", "9" * 31, None, 12, True, ["1"], ProductTable([[0]])):
            for limit in wrong:
                with self.subTest(text=text, limit=limit):
                    self.assert_raises_with(InvalidInteger, "value", limit, parse_integer, text, minimum=limit)
                    self.assert_raises_with(InvalidInteger, "value", limit, parse_integer, text, maximum=limit)
                    self.assert_raises_with(
                        InvalidInteger, "value", limit, parse_integer, text, minimum=None, maximum=limit)

    def test_both_limits_wrong(self):
        first, second = ["low"], ["high"]
        self.assert_raises_with(InvalidInteger, "value", first, parse_integer, "1", minimum=first, maximum=second)
        self.assert_raises_with(InvalidInteger, "value", first, parse_integer, "x", maximum=second, minimum=first)

    def test_arguments(self):
        self.assertEqual(parse_integer(text="4", minimum=1, maximum=4), 4)
        with self.assertRaises(TypeError):
            parse_integer("4", 1)


class SplitWordsTest(unittest.TestCase, RaiseCheck):
    def test_example(self):
        self.assertEqual([split_words("append b 1 0"), split_words("")], [["append", "b", "1", "0"], []])

    def test_words(self):
        self.assertEqual(split_words("a"), ["a"])
        self.assertEqual(split_words("table p 0,1 1,0"), ["table", "p", "0,1", "1,0"])
        self.assertEqual(split_words("a=1 ~ ! -0 a=1"), ["a=1", "~", "!", "-0", "a=1"])
        self.assertEqual(split_words(text="x y"), ["x", "y"])

    def test_only_spaces_separate(self):
        for sign in ("\t", "\r", "\u00a0", "\u2003", "\x0b", "\x0c", "\x1c", "\u2028"):
            with self.subTest(sign=sign):
                self.assertEqual(split_words("a" + sign + "b c"), ["a" + sign + "b", "c"])
                self.assertEqual(split_words(sign), [sign])

    def test_joined_words_are_split_again(self):
        words = ["w" + str(number) for number in range(300)]
        for count in range(1, 301):
            self.assertEqual(split_words(" ".join(words[:count])), words[:count])

    def test_long_text(self):
        self.assertEqual(split_words("a" * 4000), ["a" * 4000])
        self.assertEqual(split_words("a " * 1999 + "bc"), ["a"] * 1999 + ["bc"])
        text = "a " * 2000
        self.assert_raises_with(InvalidText, "value", text, split_words, text)

    def test_texts_of_another_form(self):
        for text in (" ", "  ", " a", "a ", " a b", "a b ", "a  b", "a   b", "  a", "a  ", "a b  c", "\n", "a\n", "\na",
                     "a\nb", "a \nb", "a\n b", "a \n b", "a b\n", " \n", "\n ", "\n\n"):
            with self.subTest(text=text):
                self.assert_raises_with(InvalidText, "value", text, split_words, text)

    def test_values_that_are_no_string(self):
        for value in (None, True, False, 0, 12, [], ["a"], ("a", "b"), (), {}, {"a": 1}, b"a b", ProductTable([[0]])):
            with self.subTest(value=value):
                self.assert_raises_with(InvalidText, "value", value, split_words, value)

    def test_new_list_with_each_call(self):
        first = split_words("a b")
        first.append("c")
        self.assertEqual(split_words("a b"), ["a", "b"])
        split_words("").append("x")
        self.assertEqual(split_words(""), [])
