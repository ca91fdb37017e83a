import copy
import inspect
import itertools
import unittest

from mixtrees import mixing
from mixtrees.errors import InvalidLengths, InvalidNumber, InvalidTree
from mixtrees.mixing import mixed, walk
from mixtrees.trees import feeds_of, plain, restricted
from tests.helper import (
    A, B, BAD_LENGTHS, F, G, NOT_TREES, ODD_VALUES, by_rounds, flat, nested, some_lengths, some_trees)

BAD_FIRST = [value for value in ODD_VALUES if value is not None] + [-1, 481, 482, 10 ** 39, -10 ** 39, '3', (3,), [3]]


def items(text):
    """The items that a text such as 'a0 b0' tells."""
    return [(word[0], int(word[1:])) for word in text.split()]


class InterfaceTest(unittest.TestCase):

    def test_arguments_and_home(self):
        self.assertEqual(str(inspect.signature(mixed)), '(tree, lengths, *, first=None)')
        self.assertEqual(str(inspect.signature(walk)), '(tree, lengths)')
        self.assertEqual(mixed.__module__, 'mixtrees.mixing')
        self.assertEqual(walk.__module__, 'mixtrees.mixing')
        self.assertIs(mixing.mixed, mixed)


class MixedTest(unittest.TestCase):

    def assert_mixed(self, tree, lengths, text):
        self.assertEqual(mixed(tree, lengths), items(text))

    def test_examples(self):
        self.assertEqual(
            mixed(A, (5, 2)), [('a', 0), ('a', 1), ('b', 0), ('a', 2), ('a', 3), ('b', 1), ('a', 4)])
        self.assertEqual(mixed(B, (2, 2, 2), first=4), [('a', 0), ('c', 0), ('b', 0), ('c', 1)])

    def test_kinds_of_values(self):
        output = mixed(B, (1, 2, 1))
        self.assertIs(type(output), list)
        for item in output:
            self.assertEqual([type(item), type(item[0]), type(item[1]), len(item)], [tuple, str, int, 2])

    def test_one_feed(self):
        self.assertEqual(mixed('abc', (3,)), [('abc', 0), ('abc', 1), ('abc', 2)])
        self.assertEqual(mixed('abc', (0,)), [])
        self.assertEqual(mixed('a', (60,)), [('a', index) for index in range(60)])
        self.assertEqual(mixed(((9, 'a'),), (60,)), [('a', index) for index in range(60)])
        self.assert_mixed(((2, 'a'),), (5,), 'a0 a1 a2 a3 a4')
        self.assert_mixed(nested(4, 'a'), (3,), 'a0 a1 a2')

    def test_flat(self):
        self.assert_mixed(F, (2, 2, 2), 'a0 b0 c0 a1 b1 c1')
        self.assert_mixed(flat('edcba'), (1, 2, 1, 2, 1), 'e0 d0 c0 b0 a0 d1 b1')
        self.assert_mixed(((1, 'a'), (3, 'b'), (2, 'c')), (3, 5, 5), 'a0 b0 b1 b2 c0 c1 a1 b3 b4 c2 c3 a2 c4')
        self.assert_mixed(((9, 'a'), (1, 'b')), (12, 3), 'a0 a1 a2 a3 a4 a5 a6 a7 a8 b0 a9 a10 a11 b1 b2')

    def test_nested(self):
        self.assert_mixed(B, (2, 2, 2), 'a0 c0 b0 c1 a1 b1')
        self.assert_mixed(G, (0, 1, 6), 'b0 c0 c1 c2 c3 c4 c5')
        self.assert_mixed(G, (1, 1, 6), 'a0 c0 c1 c2 b0 c3 c4 c5')
        tree = ((2, ((1, 'a'), (2, 'b'))), (1, 'c'))
        self.assert_mixed(tree, (3, 5, 4), 'a0 b0 c0 b1 a1 c1 b2 b3 c2 a2 b4 c3')
        tree = ((1, 'x'), (3, ((2, 'a'), (1, ((1, 'b'), (2, 'c'))))))
        self.assert_mixed(tree, (3, 5, 2, 3), 'x0 a0 a1 b0 x1 a2 a3 c0 x2 a4 c1 b1 c2')

    def test_feeds_of_length_zero(self):
        self.assert_mixed(A, (0, 0), '')
        self.assert_mixed(B, (0, 0, 0), '')
        self.assert_mixed(A, (0, 3), 'b0 b1 b2')
        self.assert_mixed(A, (3, 0), 'a0 a1 a2')
        self.assert_mixed(F, (2, 0, 2), 'a0 c0 a1 c1')
        self.assert_mixed(F, (0, 2, 2), 'b0 c0 b1 c1')
        self.assert_mixed(F, (0, 0, 2), 'c0 c1')
        self.assert_mixed(B, (0, 0, 2), 'c0 c1')
        self.assert_mixed(B, (0, 2, 2), 'b0 c0 b1 c1')
        self.assert_mixed(B, (2, 2, 0), 'a0 b0 a1 b1')

    def test_a_feed_ends_amid_its_weight(self):
        tree = ((3, 'a'), (2, 'b'))
        self.assert_mixed(tree, (4, 5), 'a0 a1 a2 b0 b1 a3 b2 b3 b4')
        self.assert_mixed(tree, (1, 5), 'a0 b0 b1 b2 b3 b4')
        self.assert_mixed(tree, (7, 1), 'a0 a1 a2 b0 a3 a4 a5 a6')
        self.assert_mixed(((3, 'a'), (2, 'b'), (2, 'c')), (5, 3, 6), 'a0 a1 a2 b0 b1 c0 c1 a3 a4 b2 c2 c3 c4 c5')
        # The inner mixer has no items left amid its weight either.
        tree = ((5, ((1, 'a'), (1, 'b'))), (1, 'c'))
        self.assert_mixed(tree, (2, 1, 3), 'a0 b0 a1 c0 c1 c2')

    def test_a_feed_ends_with_its_weight(self):
        self.assert_mixed(((2, 'a'), (1, 'b')), (2, 3), 'a0 a1 b0 b1 b2')
        self.assert_mixed(((2, 'a'), (3, 'b'), (1, 'c')), (4, 3, 4), 'a0 a1 b0 b1 b2 c0 a2 a3 c1 c2 c3')

    def test_a_part_that_is_left_alone(self):
        self.assert_mixed(A, (7, 1), 'a0 a1 b0 a2 a3 a4 a5 a6')
        self.assert_mixed(((1, 'a'), (2, 'b')), (1, 7), 'a0 b0 b1 b2 b3 b4 b5 b6')
        # The inner mixer is left alone outside, so inside it is still turned.
        self.assert_mixed(((1, A), (1, 'c')), (5, 3, 1), 'a0 c0 a1 b0 a2 a3 b1 a4 b2')

    def test_an_inner_mixer_goes_on_amid_its_weight(self):
        tree = ((1, ((3, 'a'), (2, 'b'))), (1, 'c'))
        self.assert_mixed(tree, (4, 3, 7), 'a0 c0 a1 c1 a2 c2 b0 c3 b1 c4 a3 c5 b2 c6')

    def test_limits_of_lengths(self):
        full = (60,) * 8
        tree = ((4, flat('abcd', 3)), (5, flat('efgh', 2)))
        output = mixed(tree, full)
        self.assertEqual(len(output), 480)
        self.assertEqual(output, by_rounds(tree, full))
        self.assertEqual(mixed(A, (0, 60)), [('b', index) for index in range(60)])

    def test_all_small_lengths(self):
        for tree in (A, B, F, G, ((2, ((1, 'a'), (2, 'b'))), (3, 'c')), ((2, 'a'), (2, ((3, 'b'), (1, 'c'))))):
            for lengths in itertools.product(range(5), repeat=len(feeds_of(tree))):
                self.assertEqual(mixed(tree, lengths), by_rounds(tree, lengths), (tree, lengths))

    def test_many_trees(self):
        for number, tree in enumerate(some_trees()):
            lengths = some_lengths(tree, number)
            output = mixed(tree, lengths)
            self.assertEqual(output, by_rounds(tree, lengths), (tree, lengths))
            self.assertEqual(mixed(plain(tree), lengths), output)

    def test_other_feeds_empty_as_restricted(self):
        for number, tree in enumerate(some_trees()):
            lengths = some_lengths(tree, number)
            names = feeds_of(tree)
            kept = [name for place, name in enumerate(names) if (number + place) % 3] or names[:1]
            some = tuple(length if name in kept else 0 for name, length in zip(names, lengths))
            left = tuple(length for name, length in zip(names, lengths) if name in kept)
            smaller = restricted(tree, tuple(reversed(kept)))
            self.assertEqual(mixed(tree, some), mixed(smaller, left), (tree, kept, lengths))

    def test_new_list(self):
        for first in (None, 0, 2, 9):
            output = mixed(B, (2, 2, 2), first=first)
            before = list(output)
            output.append('more')
            output[0] = None
            self.assertEqual(mixed(B, (2, 2, 2), first=first), before)
            self.assertIsNot(mixed(B, (2, 2, 2), first=first), mixed(B, (2, 2, 2), first=first))


class FirstTest(unittest.TestCase):

    def test_as_many_as_it_says(self):
        whole = items('a0 c0 b0 c1 a1 b1')
        self.assertEqual(mixed(B, (2, 2, 2), first=None), whole)
        for first in range(9):
            self.assertEqual(mixed(B, (2, 2, 2), first=first), whole[:first])
        for first in (60, 61, 479, 480):
            self.assertEqual(mixed(B, (2, 2, 2), first=first), whole)
            self.assertEqual(mixed(B, (0, 0, 0), first=first), [])

    def test_greatest(self):
        tree = ((4, flat('abcd', 3)), (5, flat('efgh', 2)))
        whole = mixed(tree, (60,) * 8)
        self.assertEqual(mixed(tree, (60,) * 8, first=480), whole)
        self.assertEqual(mixed(tree, (60,) * 8, first=479), whole[:479])

    def test_invalid(self):
        for number, first in enumerate(BAD_FIRST):
            with self.subTest(number=number):
                with self.assertRaises(InvalidNumber):
                    mixed(B, (2, 2, 2), first=first)
                with self.assertRaises(InvalidNumber):
                    mixed('a', (0,), first=first)

    def test_only_by_name(self):
        with self.assertRaises(TypeError):
            mixed(B, (2, 2, 2), 4)


class ErrorTest(unittest.TestCase):

    def test_no_tree(self):
        for value in NOT_TREES:
            for lengths in ((1,), (1, 1), (1, 1, 1), (), None, 5, [1], (61,)):
                for first in (None, 0, -1, 'a'):
                    with self.assertRaises(InvalidTree):
                        mixed(value, lengths, first=first)

    def test_lengths(self):
        for number, lengths in enumerate(BAD_LENGTHS):
            with self.subTest(number=number):
                for first in (None, 0, 3, -1, 481, True, 'a', []):
                    with self.assertRaises(InvalidLengths):
                        mixed(B, lengths, first=first)

    def test_lengths_of_one_feed(self):
        for lengths in (0, 3, (), (1, 1), (-1,), (61,), (True,), [1], '1', ('1',), ((1,),), None, (None,)):
            with self.assertRaises(InvalidLengths):
                mixed('a', lengths)
        # Lengths count feeds, not parts.
        for lengths in ((1, 1), (1, 1, 1, 1)):
            with self.assertRaises(InvalidLengths):
                mixed(B, lengths)

    def test_limits_that_are_allowed(self):
        self.assertEqual(len(mixed(B, (0, 60, 1))), 61)
        for lengths in itertools.product((0, 60), repeat=3):
            self.assertEqual(len(mixed(B, lengths)), sum(lengths))

    def test_arguments_stay_as_they_are(self):
        for lengths in ([1, 1, 1], [[1], 1, 1]):
            before = copy.deepcopy(lengths)
            self.assertRaises(InvalidLengths, mixed, B, lengths)
            self.assertEqual(lengths, before)
        tree = [(1, 'a'), [1, 'b']]
        self.assertRaises(InvalidTree, mixed, tree, (1, 1))
        self.assertEqual(tree, [(1, 'a'), [1, 'b']])
        first = [1]
        with self.assertRaises(InvalidNumber):
            mixed(B, (1, 1, 1), first=first)
        self.assertEqual(first, [1])

    def test_an_error_changes_no_later_result(self):
        before = mixed(B, (2, 2, 2))
        self.assertRaises(InvalidLengths, mixed, B, (2, 2, 61))
        self.assertEqual(mixed(B, (2, 2, 2)), before)


class WalkTest(unittest.TestCase):

    def test_example(self):
        self.assertEqual([name for name, index in walk(B, (2, 2, 2))], ['a', 'c', 'b', 'c', 'a', 'b'])

    def test_just_what_mixed_returns(self):
        for number, tree in enumerate(some_trees()):
            lengths = some_lengths(tree, number)
            self.assertEqual(list(walk(tree, lengths)), mixed(tree, lengths))
        for lengths in itertools.product(range(4), repeat=3):
            self.assertEqual(list(walk(G, lengths)), mixed(G, lengths))
        self.assertEqual(list(walk(B, (0, 0, 0))), [])
        self.assertEqual(list(walk('a', (0,))), [])

    def test_generator(self):
        self.assertTrue(inspect.isgeneratorfunction(walk))
        self.assertTrue(inspect.isgenerator(walk(B, (2, 2, 2))))

    def test_two_walks_do_not_disturb_each_other(self):
        one = walk(B, (2, 2, 2))
        other = walk(B, (2, 2, 2))
        pairs = list(zip(one, other))
        self.assertEqual([item for item, same in pairs], mixed(B, (2, 2, 2)))
        self.assertEqual([same for item, same in pairs], mixed(B, (2, 2, 2)))

    def test_ends(self):
        steps = walk(A, (1, 1))
        self.assertEqual([next(steps), next(steps)], [('a', 0), ('b', 0)])
        self.assertRaises(StopIteration, next, steps)

    def test_errors_with_the_first_item(self):
        for value in NOT_TREES:
            for lengths in ((1,), (1, 1, 1), None, (61,), [1]):
                steps = walk(value, lengths)
                self.assertRaises(InvalidTree, next, steps)
        for lengths in BAD_LENGTHS:
            steps = walk(B, lengths)
            self.assertRaises(InvalidLengths, next, steps)
