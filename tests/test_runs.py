"""Promises [121] to [126]: repeated idempotent products."""

import copy
import itertools
import random
import unittest

from producttrees.errors import InvalidCertificate, InvalidInteger, InvalidSequence, InvalidTable, TooMany
from producttrees.levels import height_bound
from producttrees.runs import (find_run, first_certificate_error, is_run, longest_run_free, run_free_bound, run_state)
from producttrees.tables import ProductTable
from producttrees.trees import evaluate
from tests.helpers import (LEFT_ZERO, LOW, NULL, PARITY, SWITCH, RaiseCheck, cyclic_rows, drawn_sequence, folded,
                           lowest_rows, matrix_rows, nilpotent_rows, right_zero_rows, sequences, symmetric_rows,
                           values_that_are_no_element, values_that_are_no_integer, values_that_are_no_sequence,
                           values_that_are_no_table, various_tables)

parity = ProductTable(PARITY)
low = ProductTable(LOW)
switch = ProductTable(SWITCH)
left_zero = ProductTable(LEFT_ZERO)
one = ProductTable([[0]])
TABLES = various_tables()
WRONG_COUNTS = values_that_are_no_integer() + [0, 1, 7, -2, 10 ** 29]


def greatest_endings(table, sequence):
    """Return, for each idempotent and each place, the greatest number of consecutive ranges with this product that end
    at the place; by a search through all ranges."""
    found = {}
    for element in table.idempotents():
        counts = [0]
        for stop in range(1, len(sequence) + 1):
            starts = [start for start in range(stop) if folded(table, sequence[start:stop]) == element]
            counts.append(max([counts[start] + 1 for start in starts], default=0))
        found[element] = counts
    return found


def first_last_place(table, sequence, count):
    """Return the smallest last place of a run of this length, or None."""
    endings = greatest_endings(table, sequence)
    places = [place for counts in endings.values() for place, number in enumerate(counts) if number >= count]
    return min(places, default=None)


def has_run(table, sequence, count):
    return bool(sequence) and first_last_place(table, sequence, count) is not None


def expected_state(table, sequence):
    """Return the run state by what its numbers mean: the greatest number of ranges up to a place, and from there on the
    product."""
    state = []
    endings = greatest_endings(table, sequence) if sequence else {element: [0] for element in table.idempotents()}
    for element in table.idempotents():
        counts = [-1] * len(table)
        for start in range(len(sequence)):
            product = folded(table, sequence[start:])
            counts[product] = max(counts[product], endings[element][start])
        state.append((endings[element][-1], tuple(counts)))
    return tuple(state)


class IsRunTest(unittest.TestCase, RaiseCheck):
    def check(self, table, sequence, value, expected):
        self.assertIs(is_run(table, sequence, value), expected)
        self.assertIs(is_run(value=value, sequence=tuple(sequence), table=table), expected)

    def test_runs(self):
        self.check(parity, [1, 0, 1, 0, 0], (0, [0, 3, 4]), True)
        self.check(parity, [1, 0, 1, 0, 0], (0, (0, 3, 4)), True)
        self.check(parity, [1, 0, 1, 0, 0], (0, [0, 3, 4, 5]), True)
        self.check(parity, [1, 0, 1, 0, 0], (0, [1, 2, 2 + 3]), False)
        self.check(low, [1, 1, 0, 1], (0, [0, 3, 4]), False)
        self.check(low, [1, 1, 0, 0], (0, [1, 3, 4]), True)
        self.check(low, [1] * 20, (1, list(range(21))), True)
        self.check(low, [1] * 20, (1, tuple(range(0, 21, 5))), True)

    def test_every_list_of_places(self):
        draw = random.Random(141)
        found = 0
        for table in (parity, low, switch, left_zero, ProductTable(NULL)):
            sequence = drawn_sequence(table, 5, draw)
            for count in range(1, 5):
                for places in itertools.product(range(-1, 7), repeat=count):
                    for element in range(len(table)):
                        expected = self.expected(table, sequence, element, places)
                        self.assertIs(is_run(table, sequence, (element, list(places))), expected)
                        found += expected
        self.assertGreater(found, 5)

    def expected(self, table, sequence, element, places):
        """Tell by the words of [121] whether these integers are the places of a run."""
        if len(places) < 3 or list(places) != sorted(set(places)) or places[0] < 0 or places[-1] > len(sequence):
            return False
        products = [folded(table, sequence[start:stop]) for start, stop in zip(places, places[1:])]
        return table.product(element, element) == element and set(products) == {element}

    def test_places_moved_left_out_or_doubled(self):
        sequence = [1, 1, 0, 1, 0, 1, 1, 1]
        self.check(parity, sequence, (0, [0, 2, 3, 6, 8]), True)
        for places in ([0, 2, 6, 8], [0, 3, 6, 8], [0, 2, 3, 8], [0, 2, 8]):
            self.check(parity, sequence, (0, places), True)
        for places in ([0, 2, 3, 6, 7], [1, 2, 3, 6, 8], [0, 2, 2, 3], [0, 0, 2], [0, 2, 8, 8], [0, 3, 2], [8, 6, 3],
                       [0, 2, 9], [-1, 2, 3], [2, 3], [3], [], [0, 8], [0, 2, 4], [0, 2, 3, 6, 8, 9]):
            self.check(parity, sequence, (0, places), False)

    def test_elements(self):
        self.check(parity, [1, 1, 1], (1, [0, 1, 2]), False)
        self.check(switch, [2, 2, 2], (2, [0, 1, 2]), False)
        self.check(switch, [1, 1, 1], (1, [0, 1, 2]), True)
        self.check(switch, [1, 1, 1], (0, [0, 1, 2]), False)
        self.check(switch, [0, 0, 0], (0, [0, 1, 2]), True)
        for element in values_that_are_no_element(2):
            self.check(low, [1, 1, 1], (element, [0, 1, 2]), False)
            self.check(low, [0, 0, 0], (element, [0, 1, 2]), False)

    def test_values_of_other_kinds(self):
        wrongs = [None, True, 0, "", "01", [], (), {}, {1: [0, 1, 2]}, low, [1, [0, 1, 2]], (1,), ([0, 1, 2],),
                  (1, [0, 1, 2], 3), (1, [0, 1, 2], [0, 1, 2]), ([0, 1, 2], 1), (1, None), (1, 0), (1, "012"),
                  (1, {0: 0, 1: 1, 2: 2}), (1, [[0, 1, 2]]), ((1, [0, 1, 2]),), ([1], [0, 1, 2]), ((1,), [0, 1, 2]),
                  (1, 0, 1, 2), (None, [0, 1, 2]), (1, low), [1, 0, 1, 2]]
        for item in values_that_are_no_integer():
            wrongs += [(1, [item, 1, 2]), (1, [0, item, 2]), (1, [0, 1, item]), (1, (0, 1, item))]
        for wrong in wrongs:
            with self.subTest(wrong=wrong):
                self.check(low, [1, 1, 1], wrong, False)
        self.check(low, [1, 1, 1], (1, [0, 1, 10 ** 29]), False)
        self.check(low, [1, 1, 1], (1, list(range(110))), False)

    def test_arguments_are_not_changed(self):
        value = (1, [0, 1, 2])
        sequence = [1, 1]
        is_run(low, sequence, value)
        self.assertEqual([value, sequence], [(1, [0, 1, 2]), [1, 1]])


class FindRunTest(unittest.TestCase, RaiseCheck):
    def test_example(self):
        self.assertEqual([find_run(parity, [1, 0, 1, 0, 0], 2), find_run(parity, [1, 1], 2)], [(0, [0, 3, 4]), None])

    def check(self, table, sequence, count, last):
        run = find_run(table, sequence, count)
        if last is None:
            self.assertIsNone(run)
            return
        self.assertEqual([type(run), type(run[0]), type(run[1]), len(run)], [tuple, int, list, 2])
        self.assertIs(is_run(table, sequence, run), True)
        self.assertEqual([len(run[1]), run[1][-1]], [count + 1, last])
        self.assertEqual(find_run(count=count, sequence=tuple(sequence), table=ProductTable(table.rows())), run)

    def test_beside_a_search_through_all_ranges(self):
        draw = random.Random(142)
        found = set()
        for table in TABLES[::2]:
            for length in (1, 3, 8, 17):
                sequence = drawn_sequence(table, length, draw)
                for count in range(2, 7):
                    last = first_last_place(table, sequence, count)
                    self.check(table, sequence, count, last)
                    found.add((count, last is None))
        self.assertEqual(len(found), 10)

    def test_sequences_of_all_kinds(self):
        draw = random.Random(143)
        for table in TABLES[::9]:
            for sequence in sequences(table, 24, draw):
                for count in (2, 4, 6):
                    self.check(table, sequence, count, first_last_place(table, sequence, count))

    def test_every_short_sequence_of_small_tables(self):
        for table in (parity, low, switch, left_zero, ProductTable(NULL), one):
            for length in range(1, 6):
                for sequence in itertools.product(range(len(table)), repeat=length):
                    for count in (2, 3):
                        self.check(table, list(sequence), count, first_last_place(table, sequence, count))

    def test_long_sequences(self):
        chain = ProductTable(lowest_rows(16))
        self.check(chain, [15, 14] + [13] * 2 + [0] * 1000, 2, 4)
        self.check(parity, [0, 1] * 600, 6, 12)
        draw = random.Random(144)
        for table in (switch, ProductTable(cyclic_rows(16)), ProductTable(symmetric_rows())):
            sequence = drawn_sequence(table, 1500, draw)
            last = first_last_place(table, sequence[:120], 6)
            self.assertIsNotNone(last)
            self.check(table, sequence, 6, last)
        lengths = ProductTable(nilpotent_rows(16))
        self.check(lengths, [0] * 2000, 6, 96)
        self.check(ProductTable(right_zero_rows(16)), list(range(16)) * 125, 6, 81)

    def test_a_run_at_the_end_of_a_long_sequence(self):
        # Only products of sixteen elements are idempotent.
        table = ProductTable(cyclic_rows(16))
        sequence = [1] * 15
        self.check(table, sequence, 2, None)
        self.check(table, sequence + [1], 2, None)
        self.check(table, [1] * 31, 2, None)
        self.check(table, [1] * 32, 2, 32)
        self.check(table, [1] * 1000, 6, 96)

    def test_counts(self):
        for wrong in WRONG_COUNTS:
            with self.subTest(wrong=wrong):
                self.assert_raises_with(InvalidInteger, "value", wrong, find_run, low, [1, 0, 1], wrong)
        for count in range(2, 7):
            self.check(low, [1] * 6, count, count)

    def test_new_lists_and_no_changes(self):
        sequence = [1, 0, 1, 0, 0]
        run = find_run(parity, sequence, 2)
        run[1].append(9)
        self.assertEqual([find_run(parity, sequence, 2), sequence], [(0, [0, 3, 4]), [1, 0, 1, 0, 0]])


class RunStateTest(unittest.TestCase, RaiseCheck):
    def test_example(self):
        self.assertEqual([run_state(low, [1]), run_state(low, [1, 0])],
                         [((0, (-1, 0)), (1, (-1, 0))), ((1, (0, -1)), (0, (1, -1)))])

    def test_the_empty_sequence(self):
        for table in TABLES[::4]:
            empty = tuple((0, (-1,) * len(table)) for _ in table.idempotents())
            self.assertEqual([run_state(table, []), run_state(table, ())], [empty, empty])

    def test_every_beginning(self):
        draw = random.Random(145)
        for table in TABLES[::4]:
            sequence = drawn_sequence(table, 12, draw)
            for count in range(13):
                self.assertEqual(run_state(table, sequence[:count]), expected_state(table, sequence[:count]))
                self.assertEqual(run_state(sequence=tuple(sequence[:count]), table=table),
                                 expected_state(table, sequence[:count]))

    def test_each_step_by_its_definition(self):
        draw = random.Random(146)
        for table in TABLES[::6]:
            sequence = drawn_sequence(table, 300, draw)
            old = run_state(table, sequence[:299])
            new = run_state(table, sequence)
            self.assertEqual(new, self.expected_next(table, old, sequence[299]))

    def expected_next(self, table, state, element):
        """Return the next state by the words of [122]."""
        after = []
        for (ending, counts), idempotent in zip(state, table.idempotents()):
            new = []
            for one_of in range(len(table)):
                numbers = [counts[other] for other in range(len(table)) if table.product(other, element) == one_of]
                new.append(max(numbers + ([ending] if one_of == element else []) + [-1]))
            after.append((new[idempotent] + 1, tuple(new)))
        return tuple(after)

    def test_long_sequences(self):
        state = run_state(low, [1] * 2000)
        self.assertEqual(state, ((0, (-1, 0)), (2000, (-1, 1999))))
        self.assertEqual(run_state(low, [0] * 2000), ((2000, (1999, -1)), (0, (0, -1))))
        draw = random.Random(147)
        for table in (switch, ProductTable(symmetric_rows())):
            sequence = drawn_sequence(table, 2000, draw)
            self.assertEqual(run_state(table, sequence),
                             self.expected_next(table, run_state(table, sequence[:-1]), sequence[-1]))

    def test_kinds_of_results(self):
        state = run_state(switch, [1, 2])
        self.assertEqual([type(state), len(state)], [tuple, 2])
        for part in state:
            self.assertEqual([type(part), len(part), type(part[0]), type(part[1]), len(part[1])],
                             [tuple, 2, int, tuple, 3])
            self.assertEqual({type(count) for count in part[1]}, {int})


class LongestTest(unittest.TestCase, RaiseCheck):
    def test_example(self):
        self.assertEqual(longest_run_free(one, [0], 2), ([0], [(((0, (-1,)),), 1), (((1, (0,)),), 0)]))

    def lengths_by_search(self, table, alphabet, count, most):
        """Return a dict from the states of all run-free sequences to their greatest numbers of further elements."""
        layer, layers = [()], []
        while layer:
            layers.append(layer)
            longer = [sequence + (element,) for sequence in layer for element in alphabet]
            layer = [sequence for sequence in longer if not has_run(table, sequence, count)]
            self.assertLessEqual(len(layers), most)
        remaining, states = {}, {}
        for layer in reversed(layers):
            for sequence in layer:
                further = [remaining.get(sequence + (element,), -1) for element in alphabet]
                remaining[sequence] = max(further) + 1
                state = run_state(table, list(sequence))
                self.assertEqual(states.setdefault(state, remaining[sequence]), remaining[sequence])
        return states

    def check(self, table, alphabet, count, limit=300):
        """Check the form of a result, and that it is what its own certificate shows; return both parts."""
        result = longest_run_free(table, alphabet, count, limit=limit)
        self.assertEqual([type(result), len(result), type(result[0]), type(result[1])], [tuple, 2, list, list])
        sequence, certificate = result
        self.assertEqual([element for element in sequence if element not in alphabet], [])
        self.assertFalse(has_run(table, sequence, count))
        self.assertEqual(certificate, sorted(certificate))
        self.assertEqual({type(item) for item in certificate}, {tuple})
        self.assertIsNone(first_certificate_error(table, alphabet, count, certificate))
        self.assertEqual(dict(certificate)[run_state(table, [])], len(sequence))
        self.assertLessEqual(len(sequence), run_free_bound(table, count))
        self.assertEqual(longest_run_free(limit=limit, count=count, alphabet=tuple(alphabet), table=table), result)
        return result

    def test_all_sequences_of_small_tables(self):
        cases = [(one, [0], 2), (one, [0], 3), (one, [0], 6), (parity, [1], 2), (parity, [0, 1], 2), (parity, [0], 4),
                 (parity, [1, 0], 3), (low, [0, 1], 2), (low, [1], 3), (low, [0, 1], 3), (low, [1, 0], 4),
                 (ProductTable(NULL), [0, 1], 3), (ProductTable(NULL), [1], 5), (left_zero, [1, 0], 3),
                 (switch, [1, 2], 2), (switch, [0, 1, 2], 2), (switch, [2], 3),
                 (ProductTable(right_zero_rows(2)), [0, 1], 2),
                 (ProductTable(nilpotent_rows(3)), [0, 1, 2], 2), (ProductTable(nilpotent_rows(3)), [0], 3),
                 (ProductTable(lowest_rows(3)), [0, 1, 2], 2)]
        for table, alphabet, count in cases:
            with self.subTest(rows=table.rows(), alphabet=alphabet, count=count):
                sequence, certificate = self.check(table, alphabet, count)
                expected = self.lengths_by_search(table, alphabet, count, 40)
                self.assertEqual(certificate, sorted(expected.items()))
                self.assertEqual(len(sequence), expected[run_state(table, [])])

    def test_every_count(self):
        for count in range(2, 7):
            self.assertEqual(self.check(one, [0], count)[0], [0] * (count - 1))
            self.assertEqual(len(self.check(parity, [1], count)[0]), 2 * count - 1)
            self.assertEqual(len(self.check(low, [1], count)[0]), count - 1)

    def test_one_element_of_many(self):
        circle = ProductTable(cyclic_rows(16))
        self.assertEqual(self.check(circle, [1], 6), ([1] * 95, self.check(circle, [1], 6)[1]))
        self.assertEqual(len(self.check(circle, [8], 3)[0]), 5)
        self.assertEqual(len(self.check(ProductTable(nilpotent_rows(16)), [0], 2)[0]), 31)

    def test_limits_that_are_just_met_and_just_exceeded(self):
        cases = [(one, [0], 2), (parity, [0, 1], 2), (low, [0, 1], 3), (switch, [1, 2], 2),
                 (ProductTable(cyclic_rows(16)), [1], 6)]
        for table, alphabet, count in cases:
            result = self.check(table, alphabet, count)
            size = len(result[1])
            self.assertEqual(self.check(table, alphabet, count, size), result)
            for limit in {1, size // 2, size - 1} - {0, size}:
                self.assertEqual(self.raised(TooMany, longest_run_free, table, alphabet, count, limit=limit).count,
                                 limit + 1)
        circle, pairs = ProductTable(cyclic_rows(16)), ProductTable(matrix_rows(3, 5, [[1] * 3] * 5))
        self.assertEqual(self.raised(TooMany, longest_run_free, circle, list(range(16)), 6).count, 301)
        self.assertEqual(self.raised(TooMany, longest_run_free, pairs, list(range(15)), 3, limit=1000).count, 1001)

    def test_a_certificate_of_hundreds_of_states(self):
        circle = ProductTable(cyclic_rows(5))
        sequence, certificate = self.check(circle, [1, 4], 4, 1000)
        size = len(certificate)
        self.assertTrue(700 < size <= 1000)
        self.assertEqual(self.raised(TooMany, longest_run_free, circle, [1, 4], 4).count, 301)
        self.assertEqual(longest_run_free(circle, [1, 4], 4, limit=size), (sequence, certificate))
        self.assertEqual(self.raised(TooMany, longest_run_free, circle, [1, 4], 4, limit=size - 1).count, size)
        self.assertEqual(first_certificate_error(circle, [1, 4], 4, certificate[1:]), ("start", 0))
        changed = certificate[:-1] + [(certificate[-1][0], 99)]
        self.assertEqual(first_certificate_error(circle, [1, 4], 4, changed)[0], "next")

    def test_renumbered_tables(self):
        draw = random.Random(148)
        for table, alphabet, count in ((low, [0, 1], 3), (switch, [1, 2], 2), (switch, [0, 1, 2], 2),
                                       (ProductTable(cyclic_rows(5)), [1, 3], 2),
                                       (ProductTable(nilpotent_rows(4)), [0, 1], 2)):
            order = draw.sample(range(len(table)), len(table))
            new = table.renumbered(order)
            renamed = [order.index(element) for element in alphabet]
            first, second = self.check(table, alphabet, count), self.check(new, renamed, count)
            self.assertEqual([len(first[0]), len(first[1])], [len(second[0]), len(second[1])])
            self.assertFalse(has_run(new, [order.index(element) for element in first[0]], count))
            self.assertEqual(run_free_bound(new, count), run_free_bound(table, count))

    def test_more_elements_and_greater_counts_are_no_shorter(self):
        for table in (parity, low, left_zero):
            lengths = [len(longest_run_free(table, [0, 1], count)[0]) for count in (2, 3)]
            self.assertLessEqual(lengths[0], lengths[1])
            for element in (0, 1):
                self.assertLessEqual(len(longest_run_free(table, [element], 2)[0]), lengths[0])

    def test_new_lists_and_no_changes(self):
        alphabet = [1, 0]
        sequence, certificate = longest_run_free(low, alphabet, 2)
        kept = copy.deepcopy((sequence, certificate))
        sequence.append(9)
        certificate.clear()
        self.assertEqual([longest_run_free(low, alphabet, 2), alphabet], [kept, [1, 0]])

    def test_the_limit_is_passed_by_name(self):
        with self.assertRaises(TypeError):
            longest_run_free(low, [0], 2, 300)
        self.assertEqual(longest_run_free(one, [0], 2, limit=2), longest_run_free(one, [0], 2))

    def test_wrong_arguments_in_their_order(self):
        alphabets = [[], (), None, True, 0, "", "01", {}, {0: 0}, [[0]], low, [0, 0], [1, 0, 1], [0, 1, 2], [-1],
                     [True], ["0"], [None], [0] * 17, list(range(17))]
        limits = values_that_are_no_integer() + [0, -1, 1001, 10 ** 29]
        for wrong in alphabets:
            for count in (2, 1, None):
                self.assert_raises_with(InvalidSequence, "value", wrong, longest_run_free, low, wrong, count)
                self.assert_raises_with(InvalidSequence, "value", wrong, longest_run_free, low, wrong, count, limit=0)
                self.assert_raises_with(InvalidSequence, "value", wrong, first_certificate_error, low, wrong, count, [])
        for wrong in WRONG_COUNTS:
            self.assert_raises_with(InvalidInteger, "value", wrong, longest_run_free, low, [0, 1], wrong)
            self.assert_raises_with(InvalidInteger, "value", wrong, longest_run_free, low, [0, 1], wrong, limit=0)
            self.assert_raises_with(InvalidInteger, "value", wrong, first_certificate_error, low, [0], wrong, [])
            self.assert_raises_with(InvalidInteger, "value", wrong, first_certificate_error, low, [0], wrong, None)
        for wrong in limits:
            self.assert_raises_with(InvalidInteger, "value", wrong, longest_run_free, low, [0, 1], 2, limit=wrong)
        self.assertEqual(len(longest_run_free(ProductTable(lowest_rows(16)), list(range(16))[::-1][:1], 2)[0]), 1)
        self.assertEqual(self.raised(TooMany, longest_run_free, low, [0], 2, limit=1).count, 2)


class CertificateTest(unittest.TestCase, RaiseCheck):
    def setUp(self):
        self.sequence, self.certificate = longest_run_free(low, [0, 1], 3)
        self.empty = run_state(low, [])

    def expected(self, table, alphabet, count, certificate):
        """Return what [124] says, by its words."""
        states = [state for state, _ in certificate]
        if run_state(table, []) not in states:
            return ("start", 0)
        for index, (state, remaining) in enumerate(certificate):
            for element in alphabet:
                following = RunStateTest().expected_next(table, state, element)
                if all(ending < count for ending, _ in following):
                    smaller = [number for other, number in certificate if other == following and number < remaining]
                    if not smaller:
                        return ("next", index)
        return None

    def check(self, table, alphabet, count, certificate):
        expected = self.expected(table, alphabet, count, certificate)
        for form in (certificate, tuple(certificate)):
            self.assertEqual(first_certificate_error(table, alphabet, count, form), expected)
            named = {"certificate": form, "count": count, "alphabet": tuple(alphabet), "table": table}
            self.assertEqual(first_certificate_error(**named), expected)
        return expected

    def test_right_certificates_in_any_order(self):
        draw = random.Random(149)
        for _ in range(5):
            draw.shuffle(self.certificate)
            self.assertIsNone(self.check(low, [0, 1], 3, self.certificate))
            self.assertIsNone(self.check(low, [1], 3, self.certificate))
        greater = [(state, 3 * number + 1) for state, number in self.certificate]
        self.assertIsNone(self.check(low, [0, 1], 3, greater))
        greater = [(state, number * 10 ** 28) for state, number in self.certificate]
        self.assertIsNone(self.check(low, [0, 1], 3, greater))

    def test_no_start(self):
        rest = [item for item in self.certificate if item[0] != self.empty]
        self.assertEqual(self.check(low, [0, 1], 3, rest), ("start", 0))
        self.assertEqual(self.check(low, [0, 1], 3, []), ("start", 0))
        # It comes before all other errors.
        self.assertEqual(self.check(low, [0, 1], 3, rest[:1]), ("start", 0))

    def test_missing_states(self):
        found = set()
        for missing in range(len(self.certificate)):
            rest = self.certificate[:missing] + self.certificate[missing + 1:]
            found.add(self.check(low, [0, 1], 3, rest)[0])
        self.assertEqual(found, {"start", "next"})

    def test_wrong_numbers(self):
        found = set()
        for place, (state, number) in enumerate(self.certificate):
            for other in (0, number - 1, number + 1, number + 5):
                if other >= 0:
                    changed = list(self.certificate)
                    changed[place] = (state, other)
                    found.add(self.check(low, [0, 1], 3, changed))
        self.assertGreater(len(found), 3)
        self.assertIn(None, found)

    def test_the_first_of_several_errors(self):
        zeros = [(state, 0) for state, _ in self.certificate]
        self.assertEqual(self.check(low, [0, 1], 3, zeros)[0], "next")
        draw = random.Random(150)
        found = set()
        for _ in range(40):
            changed = [(state, draw.choice([number, number, number, draw.randint(0, 9)]))
                       for state, number in draw.sample(self.certificate, len(self.certificate) - draw.randint(0, 1))]
            found.add(self.check(low, [0, 1], 3, changed))
        self.assertGreater(len(found), 5)

    def test_equal_numbers_are_not_smaller(self):
        states = {state: number for state, number in longest_run_free(one, [0], 3)[1]}
        flat = [(state, 1) for state in states]
        self.assertEqual(self.check(one, [0], 3, flat), ("next", 0))

    def test_certificates_for_another_count_or_alphabet(self):
        self.assertIsNotNone(self.check(low, [0, 1], 4, self.certificate))
        self.check(low, [0, 1], 2, self.certificate)
        small = longest_run_free(low, [1], 3)[1]
        self.assertIsNotNone(self.check(low, [0, 1], 3, small))

    def test_states_that_no_sequence_reaches(self):
        odd = (((7, (-1, 9)), (0, (10 ** 29, -1))), 0)
        self.check(low, [0, 1], 3, self.certificate + [odd])
        odd = (((0, (-1, -1)), (2, (-1, -1))), 5)
        self.check(low, [0, 1], 3, [odd] + self.certificate)

    def test_other_tables(self):
        for table, alphabet, count in ((parity, [0, 1], 2), (switch, [0, 1, 2], 2), (left_zero, [0, 1], 3),
                                       (ProductTable(nilpotent_rows(3)), [0, 2], 3)):
            certificate = longest_run_free(table, alphabet, count)[1]
            self.assertIsNone(self.check(table, alphabet, count, certificate))
            for place in range(0, len(certificate), 3):
                self.check(table, alphabet, count, certificate[:place] + certificate[place + 1:])

    def test_no_longer_sequence(self):
        # By [126]: sequences longer than the number of the empty state have a run.
        most = dict(self.certificate)[self.empty]
        for sequence in itertools.product([0, 1], repeat=most + 1):
            self.assertTrue(has_run(low, list(sequence), 3))

    def test_numbers_of_items(self):
        states = [((0, (place, -1)), (1, (-1, 0))) for place in range(1000)]
        certificate = [(state, 0) for state in states]
        self.assertEqual(first_certificate_error(low, [0], 3, certificate), ("start", 0))
        certificate[0] = (self.empty, 0)
        self.assertEqual(first_certificate_error(low, [0], 3, certificate), ("next", 0))
        wrong = certificate + [(states[0], 0)]
        self.assertEqual([len(wrong), len({state for state, _ in wrong})], [1001, 1001])
        self.assert_raises_with(InvalidCertificate, "value", wrong, first_certificate_error, low, [0], 3, wrong)

    def test_values_without_the_form(self):
        state, good = self.empty, (self.empty, 3)
        e0, e1 = state
        states = [None, True, 0, "", [], (), {}, list(state), [e0, e1], (e0,), (e0, e1, e1), (list(e0), e1),
                  (e0, list(e1)), ((0,), e1), ((0, (-1, -1), 0), e1), (((-1, -1), 0), e1), (0, e1), (e0, 0), (None, e1),
                  (e0, None), ((0, [-1, -1]), e1), (e0, (0, [-1, -1])), ((0, (-1,)), e1), ((0, (-1, -1, -1)), e1),
                  ((0, ()), e1), ((0, None), e1), ((0, -1), e1), (e0, (0, (-1, -1, 0))), ((0, -1, -1), e1),
                  (0, (-1, -1)), e0]
        for item in values_that_are_no_integer() + [-1, -10 ** 29]:
            states += [((item, (-1, -1)), e1), (e0, (item, (-1, -1)))]
        for item in values_that_are_no_integer() + [-2, -10 ** 29]:
            states += [((0, (item, -1)), e1), ((0, (-1, item)), e1), (e0, (0, (item, -1))), (e0, (0, (-1, item)))]
        items = [(wrong, 0) for wrong in states]
        items += [(state, wrong) for wrong in values_that_are_no_integer() + [-1, -10 ** 29]]
        items += [None, 0, "", [], (), [state, 3], (state,), (state, 3, 3), (3, state), state, {0: 3}, low]
        certificates = [certificate for wrong in items for certificate in ([wrong], [good, wrong], [wrong, good])]
        certificates += [None, True, 0, "", {}, {0: good}, low, [good, good], [good, (state, 4)], [good[0]], good]
        for wrong in certificates:
            with self.subTest(wrong=wrong):
                error = self.raised(InvalidCertificate, first_certificate_error, low, [0, 1], 3, wrong)
                self.assertIs(error.value, wrong)

    def test_states_of_another_table(self):
        wrong = longest_run_free(parity, [0, 1], 2)[1]
        self.assert_raises_with(InvalidCertificate, "value", wrong, first_certificate_error, low, [0, 1], 2, wrong)
        self.assert_raises_with(InvalidCertificate, "value", self.certificate, first_certificate_error, switch, [0], 2,
                                self.certificate)

    def test_arguments_are_not_changed(self):
        alphabet, certificate = [1, 0], list(self.certificate)
        first_certificate_error(low, alphabet, 3, certificate)
        self.assertEqual([alphabet, certificate], [[1, 0], self.certificate])


class BoundTest(unittest.TestCase, RaiseCheck):
    def test_bounds(self):
        self.assertEqual(run_free_bound(one, 2), 8)
        for table in TABLES[::3]:
            for count in range(2, 7):
                expected = max(count - 1, 2) ** height_bound(table)
                self.assertEqual(run_free_bound(table, count), expected)
                self.assertEqual(run_free_bound(count=count, table=table), expected)
        self.assertEqual(run_free_bound(ProductTable(lowest_rows(16)), 6), 5 ** 78)
        self.assertIs(type(run_free_bound(one, 6)), int)

    def test_wrong_counts(self):
        for wrong in WRONG_COUNTS:
            self.assert_raises_with(InvalidInteger, "value", wrong, run_free_bound, low, wrong)

    def test_long_sequences_have_runs(self):
        # Any sequence that is longer than the greatest known length has a run.
        draw = random.Random(151)
        for table, alphabet, count in ((parity, [0, 1], 2), (low, [0, 1], 3), (left_zero, [0, 1], 3),
                                       (switch, [1, 2], 2)):
            longest = len(longest_run_free(table, alphabet, count)[0])
            for _ in range(30):
                sequence = [draw.choice(alphabet) for _ in range(longest + 1)]
                self.assertIsNotNone(find_run(table, sequence, count))


class ArgumentsTest(unittest.TestCase, RaiseCheck):
    def test_values_that_are_no_table(self):
        for wrong in values_that_are_no_table():
            with self.subTest(wrong=wrong):
                for held in ([0], [], None):
                    self.assert_raises_with(InvalidTable, "value", wrong, is_run, wrong, held, (0, [0, 1, 2]))
                    self.assert_raises_with(InvalidTable, "value", wrong, find_run, wrong, held, 2)
                    self.assert_raises_with(InvalidTable, "value", wrong, find_run, wrong, held, None)
                    self.assert_raises_with(InvalidTable, "value", wrong, run_state, wrong, held)
                    self.assert_raises_with(InvalidTable, "value", wrong, longest_run_free, wrong, held, 0, limit=0)
                    self.assert_raises_with(InvalidTable, "value", wrong, first_certificate_error, wrong, held, 0, 0)
                for count in (2, 1, None):
                    self.assert_raises_with(InvalidTable, "value", wrong, run_free_bound, wrong, count)

    def test_values_that_are_no_sequence(self):
        for wrong in values_that_are_no_sequence(2):
            with self.subTest(wrong=wrong):
                self.assert_raises_with(InvalidSequence, "value", wrong, is_run, low, wrong, (1, [0, 1, 2]))
                self.assert_raises_with(InvalidSequence, "value", wrong, is_run, low, wrong, None)
                self.assert_raises_with(InvalidSequence, "value", wrong, find_run, low, wrong, 2)
                self.assert_raises_with(InvalidSequence, "value", wrong, find_run, low, wrong, 1)
                if wrong != [] and wrong != ():
                    self.assert_raises_with(InvalidSequence, "value", wrong, run_state, low, wrong)

    def test_evaluated_products_of_the_found_run(self):
        draw = random.Random(152)
        for table in TABLES[::5]:
            sequence = drawn_sequence(table, 40, draw)
            run = find_run(table, sequence, 3)
            if run is not None:
                products = [evaluate(table, sequence, *bounds) for bounds in zip(run[1], run[1][1:])]
                self.assertEqual(products, [run[0]] * 3)
