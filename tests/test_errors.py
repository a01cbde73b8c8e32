"""Promise [11]: the exception classes."""

import inspect
import unittest

from producttrees import errors
from producttrees.errors import FaultyTree, MissingError, ProductError, StateError, TooMany
from producttrees.tables import ProductTable

BASES = {"ProductError": ValueError, "MissingError": KeyError, "StateError": LookupError}

FIELDS = {
    ProductError: {
        "InvalidInteger": ["value"], "InvalidName": ["value"], "InvalidText": ["value"], "InvalidTable": ["value"],
        "NotAssociative": ["triple"], "InvalidElement": ["value"], "InvalidSequence": ["value"],
        "InvalidRange": ["bounds"], "InvalidTree": ["value"], "FaultyTree": ["kind", "index"],
        "InvalidLevel": ["value"], "InvalidOrder": ["value"], "InvalidColors": ["value"],
        "InvalidLetters": ["value"], "InvalidWord": ["value"], "InvalidState": ["value"], "InvalidMap": ["value"],
        "NotHomomorphism": ["pair"], "InvalidHeights": ["value"], "InvalidCertificate": ["value"],
        "InvalidCommand": ["value"], "InvalidLine": ["index"], "DuplicateName": ["name"], "TooMany": ["count"],
    },
    MissingError: {"UnknownName": ["name"]},
    StateError: {"NothingToUndo": [], "NotInGroup": ["element"]},
}


def listed_classes():
    """Return one tuple (class, base, fields) for each class of the interface."""
    return [(getattr(errors, name), base, FIELDS[base][name]) for base in FIELDS for name in FIELDS[base]]


def sample_values():
    """Return values of every kind that a field may hold."""
    return [None, True, False, 7, 10 ** 40, "abc", "", "a\nb", [], [1, 2], (), (1, 2, 0), {"a": [1]},
            [[[[[[1]]]]]], ProductTable([[0]]), TooMany(1)]


class ErrorsTest(unittest.TestCase):
    def test_example(self):
        self.assertEqual([TooMany(17).count, FaultyTree(index=3, kind="length").kind], [17, "length"])

    def test_bases(self):
        for name, parent in BASES.items():
            with self.subTest(name=name):
                base = getattr(errors, name)
                self.assertEqual(base.__bases__, (parent,))
                self.assertIsInstance(base("some words"), parent)
                self.assertEqual(base("some words").args, ("some words",))

    def test_bases_are_apart(self):
        for base in FIELDS:
            for other in FIELDS:
                self.assertEqual(issubclass(base, other), base is other)

    def test_every_class_has_only_its_own_base(self):
        for listed, base, _ in listed_classes():
            with self.subTest(name=listed.__name__):
                self.assertEqual(listed.__bases__, (base,))
                self.assertEqual([other for other in FIELDS if issubclass(listed, other)], [base])

    def test_no_listed_class_derives_from_another(self):
        classes = [listed for listed, _, _ in listed_classes()]
        self.assertEqual(len(set(classes)), 27)
        for first in classes:
            for second in classes:
                self.assertEqual(issubclass(first, second), first is second)

    def test_fields_by_position(self):
        for listed, _, fields in listed_classes():
            for value in sample_values():
                with self.subTest(name=listed.__name__, value=value):
                    passed = [value] + [object() for _ in fields[1:]]
                    error = listed(*passed[:len(fields)])
                    for field, held in zip(fields, passed):
                        self.assertIs(getattr(error, field), held)

    def test_fields_by_name(self):
        for listed, _, fields in listed_classes():
            for value in sample_values():
                with self.subTest(name=listed.__name__, value=value):
                    passed = {field: object() for field in fields}
                    if fields:
                        passed[fields[-1]] = value
                    error = listed(**passed)
                    for field in fields:
                        self.assertIs(getattr(error, field), passed[field])

    def test_fields_in_another_order(self):
        error = FaultyTree(index="i", kind="k")
        self.assertEqual([error.kind, error.index], ["k", "i"])
        error = FaultyTree("k", index="i")
        self.assertEqual([error.kind, error.index], ["k", "i"])

    def test_exactly_the_listed_fields(self):
        for listed, _, fields in listed_classes():
            with self.subTest(name=listed.__name__):
                error = listed(*fields)
                self.assertEqual(sorted(vars(error)), sorted(fields))

    def test_they_can_be_raised_and_caught_by_their_bases(self):
        for listed, base, fields in listed_classes():
            for caught in (listed, base, base.__bases__[0]):
                with self.subTest(name=listed.__name__, caught=caught.__name__):
                    with self.assertRaises(caught):
                        raise listed(*fields)

    def test_repr_and_str_are_strings(self):
        for listed, _, fields in listed_classes():
            error = listed(*fields)
            self.assertIsInstance(repr(error), str)
            self.assertIsInstance(str(error), str)

    def test_nothing_else_is_defined(self):
        defined = [name for name, value in vars(errors).items() if inspect.isclass(value)]
        listed = list(BASES) + [name for names in FIELDS.values() for name in names]
        self.assertEqual(sorted(defined), sorted(listed))
