import copy
import inspect
import itertools
import unittest

from mixtrees import changes
from mixtrees.changes import push, push_limit
from mixtrees.errors import InvalidItem, InvalidLengths, InvalidName, InvalidTree, TooMany
from mixtrees.mixing import mixed
from mixtrees.trees import is_tree
from tests.helper import (
    A, B, BAD_ITEMS, BAD_LENGTHS, BAD_NAMES, DEEP, F, G, NOT_TREES, ONE_FEED, SPECIAL, by_rounds, check_wrong,
    error_of, flat, names_of, nested, some_cases, some_trees)

TWOS = (2, 2, 2)
# Three mixers around the feeds a and b, two around c, and one around d.
CHAIN = ((2, ((1, ((1, 'a'), (1, 'b'))), (3, 'c'))), (5, 'd'))


def longer(tree, lengths, name):
    return tuple(length + (name == own) for own, length in zip(names_of(tree), lengths))


def pushes(tree, lengths, name):
    """The push of each item of the other feeds, by the outputs."""
    before = by_rounds(tree, lengths)
    after = {item: place for place, item in enumerate(by_rounds(tree, longer(tree, lengths, name)))}
    return {item: after[item] - place for place, item in enumerate(before) if item[0] != name}


class InterfaceTest(unittest.TestCase):

    def test_arguments_and_home(self):
        self.assertEqual(str(inspect.signature(push)), '(tree, lengths, name, item)')
        self.assertEqual(str(inspect.signature(push_limit)), '(tree, name, other)')
        for function in (push, push_limit):
            self.assertEqual(function.__module__, 'mixtrees.changes')
            self.assertIs(getattr(changes, function.__name__), function)


class PushTest(unittest.TestCase):

    def test_example(self):
        self.assertEqual(push(G, (0, 1, 6), 'a', ('b', 0)), 4)

    def test_by_none(self):
        self.assertEqual(push(G, (0, 1, 6), 'c', ('b', 0)), 0)
        self.assertEqual(push(G, (1, 1, 6), 'b', ('a', 0)), 0)
        self.assertEqual(push(A, (2, 2), 'b', ('a', 1)), 0)
        self.assertEqual(push(A, (3, 0), 'b', ('a', 1)), 0)

    def test_by_one(self):
        # a0 a1 b0 b1 becomes a0 a1 b0 a2 b1.
        self.assertEqual([push(A, (2, 2), 'a', ('b', 0)), push(A, (2, 2), 'a', ('b', 1))], [0, 1])
        self.assertEqual(push(A, (3, 0), 'b', ('a', 2)), 1)
        self.assertEqual([push(A, (0, 5), 'a', ('b', index)) for index in range(5)], [1] * 5)

    def test_by_more(self):
        # b0 c0 c1 becomes a0 c0 c1 b0.
        self.assertEqual(push(G, (0, 1, 2), 'a', ('b', 0)), 3)
        self.assertEqual([push(G, (0, 1, 6), 'a', ('c', index)) for index in range(6)], [0, 0, 0, 1, 1, 1])
        self.assertEqual(push(CHAIN, (0, 1, 6, 20), 'a', ('b', 0)), 14)

    def test_mixers_of_one_part(self):
        self.assertEqual(push(nested(2, A), (2, 2), 'a', ('b', 1)), 1)
        self.assertEqual(push(((5, G),), (0, 1, 6), 'a', ('b', 0)), 4)

    def test_as_in_the_outputs(self):
        for tree, lengths in some_cases(100):
            for name, length in zip(names_of(tree), lengths):
                if length == 60:
                    continue
                for number, (item, places) in enumerate(pushes(tree, lengths, name).items()):
                    if number % 5 == 0:
                        self.assertEqual(push(tree, lengths, name, item), places, (tree, lengths, name, item))

    def test_all_small_lengths(self):
        for tree in (A, B, F, G):
            for lengths in itertools.product(range(4), repeat=len(names_of(tree))):
                for name in names_of(tree):
                    for item, places in pushes(tree, lengths, name).items():
                        self.assertEqual(push(tree, lengths, name, item), places, (tree, lengths, name, item))

    def test_kind(self):
        self.assertIs(type(push(G, (0, 1, 6), 'a', ('b', 0))), int)
        self.assertIs(type(push(G, (0, 1, 6), 'c', ('b', 0))), int)

    def test_wrong_arguments(self):
        check_wrong(self, push, (B, TWOS, 'b', ('c', 1)), [
            (InvalidTree, NOT_TREES), (InvalidLengths, BAD_LENGTHS), (InvalidName, BAD_NAMES),
            (InvalidItem, BAD_ITEMS + [('b', 0), ('b', 1), ('b', 2)])])

    def test_a_feed_with_60_items(self):
        for item in [('c', 1), ('b', 0), ('b', 59), ('b', 60)] + BAD_ITEMS:
            self.assertIs(error_of(push, (B, (2, 60, 2), 'b', item)), TooMany)
        self.assertEqual(push(B, (2, 59, 2), 'b', ('c', 1)), 0)
        # Only the feed that gets an item is looked at.
        self.assertEqual(push(A, (60, 59), 'b', ('a', 59)), 0)
        self.assertEqual(push(A, (0, 60), 'a', ('b', 59)), 1)
        self.assertRaises(TooMany, push, A, (60, 60), 'a', ('b', 0))
        self.assertRaises(TooMany, push, A, (60, 60), 'b', ('a', 0))
        for tree in ('a', nested(4, 'a')):
            self.assertRaises(TooMany, push, tree, (60,), 'a', ('a', 0))

    def test_errors_before_too_many(self):
        for name in BAD_NAMES:
            self.assertIs(error_of(push, (B, (60, 60, 60), name, ('a', 0))), InvalidName)
        self.assertRaises(InvalidLengths, push, B, (60, 61, 60), 'a', ('b', 0))
        self.assertRaises(InvalidLengths, push, B, (60, 60), 'a', ('b', 0))
        self.assertRaises(InvalidTree, push, ((1, 'a'), (1, 'a')), (60, 60), 'a', ('a', 0))

    def test_an_item_of_the_same_feed(self):
        for tree, lengths in ((A, (3, 3)), (B, TWOS), (DEEP[0], (3,) * 8)):
            for name in names_of(tree):
                for index in (0, 1, lengths[0] - 1, lengths[0]):
                    self.assertRaises(InvalidItem, push, tree, lengths, name, (name, index))
        for tree in ONE_FEED:
            name = names_of(tree)[0]
            self.assertRaises(InvalidItem, push, tree, (3,), name, (name, 0))
            self.assertRaises(InvalidItem, push, tree, (0,), name, (name, 0))

    def test_an_item_that_is_not_there(self):
        self.assertRaises(InvalidItem, push, A, (2, 2), 'a', ('b', 2))
        self.assertRaises(InvalidItem, push, A, (0, 0), 'a', ('b', 0))
        self.assertRaises(InvalidItem, push, A, (0, 60), 'a', ('b', 60))


class PushLimitTest(unittest.TestCase):

    def test_example(self):
        self.assertEqual([push_limit(G, 'a', 'b'), push_limit(B, 'a', 'c')], [4, 1])

    def test_from_the_inner_mixer_to_the_outer_one(self):
        self.assertEqual([push_limit(CHAIN, 'a', 'b'), push_limit(CHAIN, 'b', 'a')], [14, 14])
        self.assertEqual([push_limit(CHAIN, 'a', 'c'), push_limit(CHAIN, 'c', 'b')], [6, 6])
        self.assertEqual([push_limit(CHAIN, 'a', 'd'), push_limit(CHAIN, 'd', 'c')], [1, 1])

    def test_rounded_up(self):
        # In the inner mixers the number is 4.
        for weight, limit in ((1, 4 + 5 * 4), (2, 4 + 5 * 2), (3, 4 + 5 * 2), (4, 4 + 5), (5, 4 + 5), (9, 4 + 5)):
            self.assertEqual(push_limit(((weight, CHAIN[0][1]), (5, 'd')), 'a', 'b'), limit)

    def test_all_other_parts_count(self):
        tree = ((3, 'x'), (2, ((7, 'a'), (8, 'b'))), (4, 'y'), (9, ((1, 'z'), (1, 'w'))))
        self.assertEqual(push_limit(tree, 'a', 'b'), 1 + 16)
        self.assertEqual(push_limit(tree, 'z', 'w'), 1 + 9)
        for name, other in (('x', 'a'), ('b', 'y'), ('y', 'w'), ('z', 'a')):
            self.assertEqual(push_limit(tree, name, other), 1)

    def test_four_levels(self):
        # From the inside: 1, 1 + 4 * 1, 5 + 1 * 2, 7 + 4 * 4.
        self.assertEqual(push_limit(DEEP[0], 'a', 'b'), 23)
        self.assertEqual(push_limit(DEEP[0], 'd', 'e'), 1 + 3 + 4 * 2)
        self.assertEqual(push_limit(DEEP[0], 'f', 'g'), 1 + 3)
        self.assertEqual(push_limit(DEEP[0], 'a', 'h'), 1)
        # All weights are 1, and each mixer around has one other part.
        self.assertEqual(push_limit(DEEP[2], 'a', 'e'), 8)

    def test_mixers_of_one_part(self):
        for around in range(4):
            self.assertEqual(push_limit(nested(around, A), 'a', 'b'), 1)
        self.assertEqual(push_limit(((9, ((2, ((7, flat('ab')),)), (3, 'c'))),), 'a', 'b'), 4)

    def test_kind(self):
        self.assertIs(type(push_limit(G, 'a', 'b')), int)

    def test_wrong_arguments(self):
        check_wrong(self, push_limit, (B, 'a', 'c'), [
            (InvalidTree, NOT_TREES), (InvalidName, BAD_NAMES), (InvalidName, BAD_NAMES)])

    def test_two_equal_names(self):
        for tree in SPECIAL:
            for name in names_of(tree):
                self.assertRaises(InvalidName, push_limit, tree, name, name)
        self.assertRaises(InvalidName, push_limit, B, 'd', 'd')


class GuaranteeTest(unittest.TestCase):

    def test_never_negative_and_never_above_the_limit(self):
        for tree, lengths in some_cases():
            for name, length in zip(names_of(tree), lengths):
                if length == 60:
                    continue
                limits = {other: push_limit(tree, name, other) for other in names_of(tree) if other != name}
                for item, places in pushes(tree, lengths, name).items():
                    self.assertLessEqual(0, places, (tree, lengths, name, item))
                    self.assertLessEqual(places, limits[item[0]], (tree, lengths, name, item))

    def test_items_of_the_same_feed_are_not_pushed(self):
        for tree, lengths in some_cases():
            output = mixed(tree, lengths)
            for name, length in zip(names_of(tree), lengths):
                if length == 60:
                    continue
                after = mixed(tree, longer(tree, lengths, name))
                for index in range(length):
                    self.assertEqual(after.index((name, index)), output.index((name, index)))

    def test_a_limit_that_is_reached(self):
        for tree in [((weight, flat('ab')), (more, 'c')) for weight in (1, 2, 5) for more in (1, 4, 9)]:
            self.assertTrue(is_tree(tree))
            found = [push(tree, (many, 9, 60), 'a', ('b', index)) for many in range(3) for index in range(9)]
            self.assertEqual(max(found), push_limit(tree, 'a', 'b'))

    def test_the_limit_does_not_depend_on_the_order_of_the_names(self):
        for tree in SPECIAL + some_trees(40):
            for name, other in itertools.combinations(names_of(tree), 2):
                self.assertEqual(push_limit(tree, name, other), push_limit(tree, other, name))


class ArgumentsTest(unittest.TestCase):

    def test_arguments_stay_as_they_are(self):
        tree = [(1, 'a'), [1, ['b']]]
        lengths = [1, [1], 1]
        other = ['a', [0]]
        before = copy.deepcopy([tree, lengths, other])
        self.assertRaises(InvalidTree, push, tree, lengths, other, other)
        self.assertRaises(InvalidLengths, push, B, lengths, other, other)
        self.assertRaises(InvalidName, push, B, TWOS, other, other)
        self.assertRaises(InvalidItem, push, B, TWOS, 'b', other)
        self.assertRaises(InvalidTree, push_limit, tree, other, other)
        self.assertRaises(InvalidName, push_limit, B, other, other)
        self.assertRaises(InvalidName, push_limit, B, 'a', other)
        self.assertEqual([tree, lengths, other], before)

    def test_a_call_changes_no_later_result(self):
        before = mixed(G, (0, 1, 6))
        self.assertEqual(push(G, (0, 1, 6), 'a', ('b', 0)), 4)
        self.assertEqual(push(G, (0, 1, 6), 'a', ('b', 0)), 4)
        self.assertRaises(TooMany, push, G, (60, 1, 6), 'a', ('b', 0))
        self.assertEqual(push(G, (0, 1, 6), 'a', ('b', 0)), 4)
        self.assertEqual(mixed(G, (0, 1, 6)), before)
