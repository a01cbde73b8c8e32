"""Promises [31] to [35]: transformations."""

import copy
import itertools
import random
import unittest

from producttrees.errors import (InvalidElement, InvalidLetters, InvalidState, InvalidWord, TooMany, UnknownName)
from producttrees.tables import ProductTable
from producttrees.transformations import Transformations
from tests.helpers import RaiseCheck, drawn_letters, values_that_are_no_element, values_that_are_no_integer

SIXTEEN = {"a": [0, 0, 0, 1], "b": [1, 3, 0, 1]}
SEVENTEEN = {"a": [0, 0, 0, 1], "b": [1, 3, 2, 1]}

reset = Transformations(2, {"a": [0, 0], "b": [1, 0]})


def map_of(states, letters, word):
    """Return the targets of a word, one state after the other."""
    targets = []
    for state in range(states):
        for letter in word:
            state = letters[letter][state]
        targets.append(state)
    return tuple(targets)


def first_words(states, letters, longest):
    """Return the maps of all words up to a length with their first words, by trying the words in their order."""
    found = {}
    for length in range(1, longest + 1):
        for word in itertools.product(letters, repeat=length):
            found.setdefault(map_of(states, letters, word), list(word))
    return found


def drawn_objects(count, seed):
    """Return some Transformations with their states and letters, among them each number of states and of letters."""
    draw = random.Random(seed)
    found = []
    while len(found) < count:
        states, letters = draw.randint(1, 5), draw.randint(1, 4)
        named = drawn_letters(states, letters, draw)
        try:
            found.append((Transformations(states, named), states, named))
        except TooMany:
            continue
    return found


class CreationTest(unittest.TestCase, RaiseCheck):
    def test_example(self):
        self.assertEqual([len(reset), reset.contents()], [4, [(0, 0), (1, 0), (1, 1), (0, 1)]])

    def test_one_state(self):
        for letters in ({"a": [0]}, {"a": [0], "b": [0]}, {"d": [0], "c": [0], "b": [0], "a": [0]}):
            single = Transformations(1, letters)
            self.assertEqual([len(single), single.contents(), single.states()], [1, [(0,)], 1])
            self.assertEqual(single.table(), ProductTable([[0]]))
            self.assertEqual(single.word_of(0), [next(iter(letters))])

    def test_two_to_five_states(self):
        for states in range(2, 6):
            turn = Transformations(states, {"turn": [(state + 1) % states for state in range(states)]})
            self.assertEqual(len(turn), states)
            self.assertEqual(turn.contents()[-1], tuple(range(states)))
            constant = Transformations(states, {name: [state] * states for state, name in zip(range(states), "wxyz")})
            self.assertEqual(constant.contents(), [(state,) * states for state in range(min(states, 4))])

    def test_numbers_of_states_beyond_the_limits(self):
        for wrong in values_that_are_no_integer() + [0, -1, -5, 6, 7, 16, 10 ** 29]:
            for maps in ({"a": [0]}, {"a": [0, 1, 2, 3, 4, 5]}, {}, None, "letters"):
                with self.subTest(wrong=wrong, letters=maps):
                    self.assert_raises_with(InvalidState, "value", wrong, Transformations, wrong, maps)
                    self.assert_raises_with(InvalidState, "value", wrong, Transformations, letters=maps, states=wrong)

    def test_one_to_four_letters(self):
        named = {"a": [0, 0], "b": [1, 0], "c": [0, 1], "d": [1, 1]}
        for count in range(1, 5):
            letters = dict(list(named.items())[:count])
            self.assertEqual(Transformations(2, letters).letters(), letters)
        for letters in ({}, {**named, "e": [0, 0]}, {name: [0, 0] for name in "abcdefghijklmn"}):
            self.assert_raises_with(InvalidLetters, "value", letters, Transformations, 2, letters)

    def test_names_of_letters(self):
        names = ["a", "z", "ab", "zzzzzzz", "abcdefgh", "none"]
        for name in names:
            self.assertEqual(Transformations(2, {name: [1, 0]}).word_of(1), [name, name])
        for name in ("", "A", "aB", "abcdefghi", "a1", "a b", " a", "a_b", 0, 1, -1, 7):
            for letters in ({name: [0, 1]}, {"a": [0, 1], name: [0, 1]}, {name: [0, 1], "b": [0, 1]}):
                with self.subTest(letters=letters):
                    self.assert_raises_with(InvalidLetters, "value", letters, Transformations, 2, letters)

    def test_targets_that_are_no_list_of_states(self):
        wrong_targets = [[], (), [0], [0, 1, 0], [0, 2], [2, 0], [-1, 0], [0, True], [False, 0], [None, 0], ["0", 1],
                         [[0], 1], [0, 10 ** 29], None, 0, True, "", "01", {}, {0: 0, 1: 1}, [[0, 1]], reset]
        for targets in wrong_targets:
            for letters in ({"a": targets}, {"a": targets, "b": [0, 1]}, {"b": [0, 1], "a": targets}):
                with self.subTest(letters=letters):
                    self.assert_raises_with(InvalidLetters, "value", letters, Transformations, 2, letters)
        for states in range(1, 6):
            for wrong in (-1, states, states + 1, True, None, "0"):
                for place in range(states):
                    letters = {"a": [0] * states}
                    letters["a"][place] = wrong
                    self.assert_raises_with(InvalidLetters, "value", letters, Transformations, states, letters)

    def test_letters_that_are_no_dict(self):
        for letters in (None, True, 0, 2, "", "ab", [], ["a"], [("a", [0, 1])], (("a", (0, 1)),), reset, [[0, 1]]):
            with self.subTest(letters=letters):
                self.assert_raises_with(InvalidLetters, "value", letters, Transformations, 2, letters)

    def test_tuples_as_targets(self):
        for letters in ({"a": (0, 0), "b": (1, 0)}, {"a": (0, 0), "b": [1, 0]}):
            same = Transformations(2, letters)
            self.assertEqual(same, reset)
            self.assertEqual(same.letters(), {"a": [0, 0], "b": [1, 0]})
            self.assertEqual([type(targets) for targets in same.letters().values()], [list, list])
        self.assertEqual(Transformations(letters={"a": (0, 0), "b": (1, 0)}, states=2), reset)

    def test_just_sixteen_and_just_seventeen(self):
        self.assertEqual(len(first_words(4, SIXTEEN, 9)), 16)
        self.assertEqual(len(first_words(4, SEVENTEEN, 9)), 17)
        full = Transformations(4, SIXTEEN)
        self.assertEqual([len(full), len(full.contents()), len(full.table())], [16, 16, 16])
        self.assertEqual(self.raised(TooMany, Transformations, 4, SEVENTEEN).count, 17)
        sixteen = {"a": [2, 0, 1, 2, 4], "b": [2, 4, 4, 4, 4]}
        self.assertEqual(len(Transformations(5, sixteen)), 16)
        for states, letters in ((5, {"a": [2, 4, 4, 2, 2], "b": [2, 3, 0, 3, 4]}),
                                (3, {"a": [0, 0, 1], "b": [0, 0, 2], "c": [2, 1, 0]})):
            self.assertEqual(len(first_words(states, letters, 8)), 17)
            self.assertEqual(self.raised(TooMany, Transformations, states, letters).count, 17)

    def test_many_elements(self):
        # All maps of the states: 27, 256 and 3125; the last of the letters alone is not enough.
        for states in (3, 4, 5):
            others = list(range(2, states))
            letters = {"turn": [1, *others, 0], "swap": [1, 0, *others], "fold": [0, 0, *others]}
            self.assertEqual(self.raised(TooMany, Transformations, states, letters).count, 17)

    def test_wrong_letters_before_too_many(self):
        letters = dict(SEVENTEEN, c=[0, 1, 2, 4])
        self.assert_raises_with(InvalidLetters, "value", letters, Transformations, 4, letters)

    def test_passed_letters_are_not_changed(self):
        for letters in (dict(SIXTEEN), dict(SEVENTEEN), {"b": (0, 1, 2, 3)}, {"a": [0, 4, 0, 0]}):
            kept = copy.deepcopy(letters)
            try:
                Transformations(4, letters)
            except (InvalidLetters, TooMany):
                pass
            self.assertEqual(letters, kept)
            self.assertEqual(list(letters), list(kept))


class NumberingTest(unittest.TestCase):
    def check(self, states, letters):
        made = Transformations(states, letters)
        found = first_words(states, letters, len(made.word_of(len(made) - 1)) + 1)
        self.assertEqual(made.contents(), list(found))
        self.assertEqual([made.word_of(element) for element in range(len(made))], list(found.values()))

    def test_all_pairs_of_letters_over_two_states(self):
        maps = list(itertools.product(range(2), repeat=2))
        for first, second in itertools.product(maps, repeat=2):
            self.check(2, {"b": list(first), "a": list(second)})

    def test_drawn_letters(self):
        for _, states, letters in drawn_objects(40, 1):
            self.check(states, letters)

    def test_the_order_of_the_dict_counts(self):
        first = Transformations(2, {"a": [0, 0], "b": [1, 0]})
        second = Transformations(2, {"b": [1, 0], "a": [0, 0]})
        self.assertEqual(first.contents(), [(0, 0), (1, 0), (1, 1), (0, 1)])
        self.assertEqual(second.contents(), [(1, 0), (0, 0), (0, 1), (1, 1)])
        self.assertEqual(second.word_of(2), ["b", "b"])
        self.assertEqual(second.word_of(3), ["a", "b"])
        self.check(4, SIXTEEN)
        self.check(4, {"b": SIXTEEN["b"], "a": SIXTEEN["a"]})

    def test_letters_that_are_alike(self):
        alike = Transformations(3, {"z": [1, 2, 0], "a": [1, 2, 0], "m": [0, 0, 0], "b": [0, 0, 0]})
        self.assertEqual(alike.contents()[:2], [(1, 2, 0), (0, 0, 0)])
        self.assertEqual(alike.word_of(1), ["m"])
        self.assertEqual([alike.element_of([name]) for name in "zamb"], [0, 0, 1, 1])
        self.assertEqual(list(alike.letters()), ["z", "a", "m", "b"])

    def test_long_shortest_words(self):
        turn = Transformations(5, {"t": [1, 2, 0, 4, 3]})
        self.assertEqual([turn.word_of(element) for element in range(6)], [["t"] * count for count in range(1, 7)])
        longest = max(len(made.word_of(len(made) - 1)) for made, _, _ in drawn_objects(40, 1))
        self.assertGreater(longest, 3)


class ContentsTest(unittest.TestCase):
    def test_accessors(self):
        self.assertEqual([reset.states(), reset.letters(), len(reset)], [2, {"a": [0, 0], "b": [1, 0]}, 4])
        self.assertEqual(list(reset.letters()), ["a", "b"])
        turned = Transformations(2, {"b": [1, 0], "a": [0, 0]})
        self.assertEqual(list(turned.letters()), ["b", "a"])
        self.assertEqual([type(targets) for targets in turned.contents()], [tuple] * 4)
        self.assertIs(type(turned.contents()), list)

    def test_products_apply_the_first_map_first(self):
        # 0 sends everything to 0, and 1 swaps: first 0 and then 1 sends everything to 1.
        self.assertEqual(reset.table().product(0, 1), 2)
        self.assertEqual(reset.table().product(1, 0), 0)
        for made, states, _ in drawn_objects(60, 2):
            maps, table = made.contents(), made.table()
            self.assertIs(type(table), ProductTable)
            self.assertEqual(len(table), len(made))
            self.assertEqual(len(made), len(maps))
            for a, b in itertools.product(range(len(made)), repeat=2):
                expected = tuple(maps[b][maps[a][state]] for state in range(states))
                self.assertEqual(maps[table.product(a, b)], expected)

    def test_equality(self):
        forms = [(2, {"a": [0, 0], "b": [1, 0]}), (2, {"b": [1, 0], "a": [0, 0]}), (2, {"a": [0, 0], "c": [1, 0]}),
                 (2, {"a": [0, 0]}), (2, {"a": [0, 0], "b": [1, 0], "c": [1, 0]}), (2, {"a": [1, 0], "b": [0, 0]}),
                 (2, {"a": [0, 0], "b": [0, 1]}), (1, {"a": [0]}), (1, {"b": [0]}), (3, {"a": [0, 0, 0]}),
                 (1, {"a": [0], "b": [0]})]
        for i, first in enumerate(forms):
            for j, second in enumerate(forms):
                same = Transformations(first[0], first[1]) == Transformations(second[0], copy.deepcopy(second[1]))
                self.assertIs(same, i == j)
                self.assertIs(Transformations(*first) != Transformations(*second), i != j)

    def test_no_other_value_is_equal(self):
        for other in (reset.table(), reset.letters(), reset.contents(), 4, 2, None, "reset", [reset],
                      (2, reset.letters())):
            self.assertIs(reset == other, False)
            self.assertIs(reset != other, True)
            self.assertIs(other == reset, False)

    def test_repr_is_a_string(self):
        self.assertIsInstance(repr(reset), str)

    def test_later_changes_change_nothing(self):
        letters = {"a": [0, 0], "b": [1, 0]}
        made = Transformations(2, letters)
        letters["a"][0] = 1
        letters["b"] = [0, 0]
        letters["c"] = [0, 0]
        self.assertEqual(made, reset)
        returned = made.letters()
        returned["a"][1] = 1
        del returned["b"]
        made.contents().append((0, 0))
        made.contents()[0] = None
        made.word_of(2).append("a")
        self.assertEqual(made.letters(), {"a": [0, 0], "b": [1, 0]})
        self.assertEqual(made.contents(), [(0, 0), (1, 0), (1, 1), (0, 1)])
        self.assertEqual([made.word_of(2), len(made), made == reset], [["a", "b"], 4, True])

    def test_new_lists_and_dicts_with_each_call(self):
        for read in (reset.letters, reset.contents, lambda: reset.word_of(0), lambda: reset.letters()["a"]):
            self.assertIsNot(read(), read())
            self.assertEqual(read(), read())


class WordsTest(unittest.TestCase, RaiseCheck):
    def test_example(self):
        results = [reset.element_of(["b", "b", "a"]), reset.word_of(2), reset.run(1, ["b", "a"])]
        self.assertEqual(results, [0, ["a", "b"], 0])

    def test_words(self):
        draw = random.Random(3)
        for made, states, letters in drawn_objects(40, 4):
            for length in (1, 2, 3, 7, 59, 60):
                word = [draw.choice(list(letters)) for _ in range(length)]
                expected = map_of(states, letters, word)
                self.assertEqual(made.contents()[made.element_of(word)], expected)
                self.assertEqual(made.element_of(tuple(word)), made.element_of(word=word))
                for state in range(states):
                    self.assertEqual(made.run(state, word), expected[state])
                    self.assertEqual(made.run(word=tuple(word), state=state), expected[state])

    def test_words_of_elements(self):
        for made, _, _ in drawn_objects(40, 5):
            for element in range(len(made)):
                word = made.word_of(element)
                self.assertIs(type(word), list)
                self.assertEqual(made.element_of(word), element)
                self.assertEqual(made.word_of(element=element), word)

    def test_lengths_of_words(self):
        self.assertEqual([reset.element_of(["b"] * 60), reset.run(0, ["b"] * 59)], [3, 1])
        for word in ([], (), ["b"] * 61, ("b",) * 61, ["b"] * 70, ["c"] * 61):
            self.assert_raises_with(InvalidWord, "value", word, reset.element_of, word)
            self.assert_raises_with(InvalidWord, "value", word, reset.run, 0, word)

    def test_values_that_are_no_word(self):
        items = ["", "A", "abcdefghi", "a b", "a1", 0, 1, None, True, ["a"], ("a",), {"a": 1}, reset]
        words = [[item] for item in items] + [["a", item, "b"] for item in items] + [["nobody", item] for item in items]
        for word in words + [None, True, 0, 4, "", "a", "ab", {}, {"a": [0, 0]}, reset, [["a", "b"]]]:
            with self.subTest(word=word):
                self.assert_raises_with(InvalidWord, "value", word, reset.element_of, word)
                self.assert_raises_with(InvalidWord, "value", word, reset.run, 1, word)

    def test_unknown_letters(self):
        for word, name in ((["c"], "c"), (["a", "nobody", "none"], "nobody"), (["b"] * 59 + ["ab"], "ab"),
                           (("x", "y", "a"), "x"), (["aa"], "aa")):
            for action in (lambda w: reset.element_of(w), lambda w: reset.run(0, w)):
                error = self.raised(UnknownName, action, word)
                self.assertEqual(error.name, name)
                self.assertIn(id(error.name), [id(item) for item in word])

    def test_wrong_elements(self):
        for made in (reset, Transformations(1, {"a": [0]}), Transformations(4, SIXTEEN)):
            self.assertIs(type(made.word_of(len(made) - 1)), list)
            for wrong in values_that_are_no_element(len(made)):
                with self.subTest(wrong=wrong):
                    self.assert_raises_with(InvalidElement, "value", wrong, made.word_of, wrong)

    def test_wrong_states(self):
        for made in (reset, Transformations(1, {"a": [0]}), Transformations(5, {"a": [0, 1, 2, 3, 4]})):
            self.assertEqual(made.run(made.states() - 1, ["a"]), 4 if made.states() == 5 else 0)
            for wrong in values_that_are_no_element(made.states()):
                for word in (["a"], ["nobody"], [], None, "a"):
                    with self.subTest(wrong=wrong, word=word):
                        self.assert_raises_with(InvalidState, "value", wrong, made.run, wrong, word)
                        self.assert_raises_with(InvalidState, "value", wrong, made.run, word=word, state=wrong)

    def test_words_are_not_changed(self):
        word = ["b", "a", "b"]
        reset.element_of(word)
        reset.run(0, word)
        self.raised(UnknownName, reset.element_of, word + ["c"])
        self.assertEqual(word, ["b", "a", "b"])

    def test_run_is_the_target_of_the_element(self):
        for made, states, letters in drawn_objects(20, 6):
            for word in itertools.product(letters, repeat=3):
                for state in range(states):
                    self.assertEqual(made.run(state, word), made.contents()[made.element_of(word)][state])
