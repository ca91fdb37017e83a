import copy
import inspect
import itertools
import sys
import unittest
from collections import Counter

from mixtrees import places
from mixtrees.errors import InvalidItem, InvalidLengths, InvalidNumber, InvalidTree
from mixtrees.mixing import mixed
from mixtrees.places import counts_in, is_before, item_at, place_of, when_all
from tests.helper import (
    A, B, BAD_ITEMS, BAD_LENGTHS, BAD_NUMBERS, DEEP, F, G, NOT_TREES, by_rounds, check_new_list, check_wrong, flat,
    names_of, nested, some_cases)

TWOS = (2, 2, 2)
DEEP_FULL = (60,) * 8


class InterfaceTest(unittest.TestCase):

    def test_arguments_and_home(self):
        signatures = {
            'place_of': '(tree, lengths, item)', 'item_at': '(tree, lengths, place)',
            'is_before': '(tree, lengths, item, other)', 'counts_in': '(tree, lengths, many)',
            'when_all': '(tree, lengths)',
        }
        for name, signature in signatures.items():
            with self.subTest(name):
                function = getattr(places, name)
                self.assertEqual(str(inspect.signature(function)), signature)
                self.assertEqual(function.__module__, 'mixtrees.places')


class PlaceOfTest(unittest.TestCase):

    def test_example(self):
        self.assertEqual(place_of(B, TWOS, ('b', 0)), 2)

    def test_each_item(self):
        # The output is a0 c0 b0 c1 a1 b1.
        for place, item in enumerate([('a', 0), ('c', 0), ('b', 0), ('c', 1), ('a', 1), ('b', 1)]):
            self.assertEqual(place_of(B, TWOS, item), place)
        # The output is b0 c0 c1 c2 c3 c4 c5, and then a0 c0 c1 c2 b0 c3 c4 c5.
        self.assertEqual([place_of(G, (0, 1, 6), ('c', index)) for index in range(6)], [1, 2, 3, 4, 5, 6])
        self.assertEqual([place_of(G, (1, 1, 6), ('c', index)) for index in range(6)], [1, 2, 3, 5, 6, 7])
        self.assertEqual([place_of(G, (1, 1, 6), item) for item in (('a', 0), ('b', 0))], [0, 4])

    def test_one_feed(self):
        for tree in ('a', ((9, 'a'),), nested(4, 'a')):
            self.assertEqual([place_of(tree, (60,), ('a', index)) for index in range(60)], list(range(60)))
        self.assertEqual(place_of('abcdef', (1,), ('abcdef', 0)), 0)

    def test_first_and_last_place(self):
        for tree in DEEP:
            output = by_rounds(tree, DEEP_FULL)
            self.assertEqual(place_of(tree, DEEP_FULL, output[0]), 0)
            self.assertEqual(place_of(tree, DEEP_FULL, output[479]), 479)

    def test_as_in_the_output(self):
        for tree, lengths in some_cases():
            output = mixed(tree, lengths)
            found = [place_of(tree, lengths, item) for item in output]
            self.assertEqual(found, list(range(len(output))), (tree, lengths))

    def test_all_small_lengths(self):
        for tree in (A, B, F, G, ((2, ((1, 'a'), (2, 'b'))), (3, 'c')), ((2, 'a'), (2, ((3, 'b'), (1, 'c'))))):
            for lengths in itertools.product(range(4), repeat=len(names_of(tree))):
                for place, item in enumerate(by_rounds(tree, lengths)):
                    self.assertEqual(place_of(tree, lengths, item), place, (tree, lengths, item))

    def test_kind(self):
        self.assertIs(type(place_of(B, TWOS, ('a', 0))), int)
        self.assertIs(type(place_of('a', (2,), ('a', 1))), int)

    def test_wrong_arguments(self):
        check_wrong(self, place_of, (B, TWOS, ('a', 1)), [
            (InvalidTree, NOT_TREES), (InvalidLengths, BAD_LENGTHS), (InvalidItem, BAD_ITEMS)])

    def test_items_at_the_limits(self):
        for length in (0, 1, 59, 60):
            for index in (-1, length, length + 1, 60, 61):
                self.assertRaises(InvalidItem, place_of, 'a', (length,), ('a', index))
                self.assertRaises(InvalidItem, place_of, A, (3, length), ('b', index))
        # The lengths of other feeds do not matter.
        self.assertRaises(InvalidItem, place_of, B, (0, 60, 60), ('a', 0))
        self.assertRaises(InvalidItem, place_of, B, (60, 1, 60), ('b', 1))
        self.assertRaises(InvalidItem, place_of, B, (60, 60, 5), ('c', 5))
        self.assertRaises(InvalidItem, place_of, B, (0, 0, 0), ('a', 0))


class ItemAtTest(unittest.TestCase):

    def test_example(self):
        self.assertEqual(item_at(B, TWOS, 4), ('a', 1))

    def test_each_place(self):
        found = [item_at(B, TWOS, place) for place in range(6)]
        self.assertEqual(found, [('a', 0), ('c', 0), ('b', 0), ('c', 1), ('a', 1), ('b', 1)])

    def test_one_feed(self):
        for tree in ('a', ((9, 'a'),), nested(4, 'a')):
            self.assertEqual([item_at(tree, (60,), place) for place in (0, 1, 58, 59)],
                             [('a', 0), ('a', 1), ('a', 58), ('a', 59)])

    def test_first_and_last_place(self):
        for tree in DEEP:
            output = by_rounds(tree, DEEP_FULL)
            self.assertEqual(item_at(tree, DEEP_FULL, 0), output[0])
            self.assertEqual(item_at(tree, DEEP_FULL, 479), output[479])
            self.assertRaises(InvalidNumber, item_at, tree, DEEP_FULL, 480)
            self.assertRaises(InvalidNumber, item_at, tree, DEEP_FULL, -1)

    def test_as_in_the_output(self):
        for tree, lengths in some_cases():
            output = mixed(tree, lengths)
            step = 1 if len(output) < 60 else 7
            for place in [*range(0, len(output), step), *range(len(output))[-3:]]:
                self.assertEqual(item_at(tree, lengths, place), output[place], (tree, lengths, place))

    def test_all_small_lengths(self):
        for tree in (A, B, F, G, ((2, ((1, 'a'), (2, 'b'))), (3, 'c')), ((2, 'a'), (2, ((3, 'b'), (1, 'c'))))):
            for lengths in itertools.product(range(4), repeat=len(names_of(tree))):
                found = [item_at(tree, lengths, place) for place in range(sum(lengths))]
                self.assertEqual(found, by_rounds(tree, lengths), (tree, lengths))

    def test_kinds(self):
        for place in range(6):
            item = item_at(B, TWOS, place)
            self.assertEqual([type(item), type(item[0]), type(item[1]), len(item)], [tuple, str, int, 2])

    def test_wrong_arguments(self):
        check_wrong(self, item_at, (B, TWOS, 5), [
            (InvalidTree, NOT_TREES), (InvalidLengths, BAD_LENGTHS), (InvalidNumber, BAD_NUMBERS + [6, 7, 480])])

    def test_no_item_at_the_place(self):
        for tree, lengths in some_cases(20):
            for place in (-1, sum(lengths), sum(lengths) + 1):
                self.assertRaises(InvalidNumber, item_at, tree, lengths, place)
        for tree, lengths in ((A, (0, 0)), ('a', (0,)), (B, (0, 0, 0))):
            for place in (-1, 0, 1, False):
                self.assertRaises(InvalidNumber, item_at, tree, lengths, place)


class IsBeforeTest(unittest.TestCase):

    def test_example(self):
        self.assertIs(is_before(B, TWOS, ('c', 1), ('a', 1)), True)

    def test_all_pairs(self):
        for tree, lengths in ((A, (5, 2)), (B, TWOS), (B, (0, 3, 5)), (G, (3, 4, 5)), (DEEP[0], (3,) * 8), ('a', (9,))):
            output = by_rounds(tree, lengths)
            for (place, item), (second, other) in itertools.product(enumerate(output), repeat=2):
                self.assertIs(is_before(tree, lengths, item, other), place < second, (tree, lengths, item, other))

    def test_two_equal_items(self):
        for item in (('a', 0), ('b', 1), ('c', 0)):
            self.assertIs(is_before(B, TWOS, item, item), False)
        self.assertIs(is_before('a', (1,), ('a', 0), ('a', 0)), False)

    def test_items_of_one_feed(self):
        for tree, lengths in some_cases(20):
            for name, length in zip(names_of(tree), lengths):
                for index in range(1, length, 9):
                    self.assertIs(is_before(tree, lengths, (name, index - 1), (name, index)), True)
                    self.assertIs(is_before(tree, lengths, (name, index), (name, index - 1)), False)

    def test_wrong_arguments(self):
        check_wrong(self, is_before, (B, TWOS, ('a', 1), ('c', 0)), [
            (InvalidTree, NOT_TREES), (InvalidLengths, BAD_LENGTHS), (InvalidItem, BAD_ITEMS),
            (InvalidItem, BAD_ITEMS)])


class CountsInTest(unittest.TestCase):

    def test_example(self):
        self.assertEqual(counts_in(B, TWOS, 3), [1, 1, 1])

    def test_each_number(self):
        found = [counts_in(B, TWOS, many) for many in range(7)]
        self.assertEqual(
            found, [[0, 0, 0], [1, 0, 0], [1, 0, 1], [1, 1, 1], [1, 1, 2], [2, 1, 2], [2, 2, 2]])

    def test_limits(self):
        for tree in DEEP:
            self.assertEqual(counts_in(tree, DEEP_FULL, 0), [0] * 8)
            self.assertEqual(counts_in(tree, DEEP_FULL, 480), [60] * 8)
            self.assertRaises(InvalidNumber, counts_in, tree, DEEP_FULL, 481)
            self.assertRaises(InvalidNumber, counts_in, tree, DEEP_FULL, -1)
        for tree, lengths in (('a', (0,)), (A, (0, 0)), (nested(2, B), (0, 0, 0))):
            self.assertEqual(counts_in(tree, lengths, 0), list(lengths))
            self.assertRaises(InvalidNumber, counts_in, tree, lengths, 1)

    def test_one_feed(self):
        for tree in ('a', ((9, 'a'),), nested(4, 'a')):
            self.assertEqual([counts_in(tree, (60,), many) for many in range(61)], [[many] for many in range(61)])
            self.assertRaises(InvalidNumber, counts_in, tree, (60,), 61)

    def test_as_in_the_output(self):
        for tree, lengths in some_cases():
            output = mixed(tree, lengths)
            step = 1 if len(output) < 60 else 7
            for many in [*range(0, len(output), step), len(output)]:
                counts = Counter(name for name, index in output[:many])
                expected = [counts[name] for name in names_of(tree)]
                self.assertEqual(counts_in(tree, lengths, many), expected, (tree, lengths, many))

    def test_kinds(self):
        self.assertEqual([type(count) for count in counts_in(B, TWOS, 3)], [int, int, int])

    def test_new_list(self):
        check_new_list(self, counts_in, B, TWOS, 3)
        check_new_list(self, counts_in, 'a', (3,), 2)
        check_new_list(self, counts_in, B, (0, 0, 0), 0)

    def test_wrong_arguments(self):
        check_wrong(self, counts_in, (B, TWOS, 6), [
            (InvalidTree, NOT_TREES), (InvalidLengths, BAD_LENGTHS), (InvalidNumber, BAD_NUMBERS + [7, 8, 180, 480])])

    def test_one_more_than_there_are(self):
        for tree, lengths in some_cases(20):
            self.assertEqual(counts_in(tree, lengths, sum(lengths)), list(lengths))
            self.assertRaises(InvalidNumber, counts_in, tree, lengths, sum(lengths) + 1)


class WhenAllTest(unittest.TestCase):

    def test_example(self):
        self.assertEqual([when_all(A, (5, 2)), when_all(A, (1, 2)), when_all(A, (0, 0))], [3, 2, 0])

    def test_some_feeds_empty(self):
        self.assertEqual([when_all(A, (5, 0)), when_all(A, (0, 5)), when_all(B, (0, 0, 60))], [1, 1, 1])
        self.assertEqual([when_all(B, TWOS), when_all(B, (0, 2, 2)), when_all(B, (2, 2, 0))], [3, 2, 2])
        self.assertEqual(when_all(G, (1, 1, 6)), 5)

    def test_all_feeds_empty(self):
        for tree, many in (('a', 1), (nested(4, 'a'), 1), (B, 3), (DEEP[0], 8)):
            self.assertEqual(when_all(tree, (0,) * many), 0)

    def test_one_feed(self):
        for tree in ('a', ((9, 'a'),), nested(4, 'a')):
            self.assertEqual([when_all(tree, (1,)), when_all(tree, (60,))], [1, 1])

    def test_large_weights(self):
        tree = tuple((9, part) for part in ('a', 'b', 'c', 'd', flat('efgh', 9)))
        # 36 items of a to d, and nine in the first turn of the last part; f has to wait for its second turn.
        self.assertEqual(when_all(tree, (60, 60, 60, 60, 60, 0, 0, 0)), 37)
        self.assertEqual(when_all(tree, (60, 60, 60, 60, 60, 60, 0, 0)), 36 + 9 + 36 + 1)
        self.assertEqual(when_all(tree, (60, 60, 60, 60, 60, 60, 60, 60)), 3 * 45 + 36 + 1)

    def test_as_in_the_output(self):
        for tree, lengths in some_cases():
            output = [name for name, index in mixed(tree, lengths)]
            needed = max([output.index(name) + 1 for name in set(output)], default=0)
            self.assertEqual(when_all(tree, lengths), needed, (tree, lengths))
            self.assertIs(type(when_all(tree, lengths)), int)

    def test_wrong_arguments(self):
        check_wrong(self, when_all, (B, TWOS), [(InvalidTree, NOT_TREES), (InvalidLengths, BAD_LENGTHS)])


class ArgumentsTest(unittest.TestCase):

    def test_arguments_stay_as_they_are(self):
        tree = [(1, 'a'), [1, ['b']]]
        lengths = [1, [1], 1]
        other = ['a', [0]]
        before = copy.deepcopy([tree, lengths, other])
        for function in (place_of, item_at, counts_in):
            self.assertRaises(InvalidTree, function, tree, lengths, other)
            self.assertRaises(InvalidLengths, function, B, lengths, other)
        self.assertRaises(InvalidItem, place_of, B, TWOS, other)
        self.assertRaises(InvalidItem, is_before, B, TWOS, other, other)
        self.assertRaises(InvalidItem, is_before, B, TWOS, ('a', 0), other)
        self.assertRaises(InvalidNumber, item_at, B, TWOS, other)
        self.assertRaises(InvalidNumber, counts_in, B, TWOS, other)
        self.assertRaises(InvalidTree, when_all, tree, lengths)
        self.assertRaises(InvalidLengths, when_all, B, lengths)
        self.assertEqual([tree, lengths, other], before)

    def test_an_error_changes_no_later_result(self):
        before = [counts_in(B, TWOS, 4), place_of(B, TWOS, ('b', 1)), item_at(B, TWOS, 2)]
        self.assertRaises(InvalidItem, place_of, B, TWOS, ('b', 2))
        self.assertRaises(InvalidNumber, item_at, B, TWOS, 6)
        self.assertRaises(InvalidNumber, counts_in, B, TWOS, 7)
        self.assertEqual([counts_in(B, TWOS, 4), place_of(B, TWOS, ('b', 1)), item_at(B, TWOS, 2)], before)


def steps(function, *arguments):
    """How many lines a call runs."""
    lines = []

    def trace(frame, event, told):
        if event == 'line':
            lines.append(frame.f_lineno)
        return trace

    before = sys.gettrace()
    sys.settrace(trace)
    try:
        function(*arguments)
    finally:
        sys.settrace(before)
    return len(lines)


class WithoutMixingTest(unittest.TestCase):

    def growth(self, tree, function, few, many):
        """How many times more lines a call runs with ten times as many items."""
        return steps(function, tree, (60,) * 8, many) / steps(function, tree, (6,) * 8, few)

    def test_ten_times_the_items_are_not_ten_times_the_work(self):
        for tree in DEEP:
            # What mixes everything does grow, so that the measure tells something.
            self.assertGreater(self.growth(tree, lambda tree, lengths, many: mixed(tree, lengths), 48, 480), 5)
            for name in names_of(tree):
                self.assertLess(self.growth(tree, place_of, (name, 5), (name, 59)), 1.5)
            for few, many in ((0, 0), (24, 240), (47, 479)):
                self.assertLess(self.growth(tree, item_at, few, many), 3)
                self.assertLess(self.growth(tree, counts_in, few, many), 3)
