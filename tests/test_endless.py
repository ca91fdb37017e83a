import copy
import inspect
import itertools
import math
import unittest
from collections import Counter
from fractions import Fraction

from mixtrees import endless
from mixtrees.endless import counts_endless, longest_wait, names_endless, period, shares
from mixtrees.errors import InvalidName, InvalidNumber, InvalidTree, TooLong
from mixtrees.mixing import mixed
from mixtrees.trees import is_tree, plain
from tests.helper import (
    A, B, BAD_NAMES, BAD_NUMBERS, DEEP, F, G, NOT_TREES, ONE_FEED, SPECIAL, check_new_list, check_wrong, error_of,
    flat, names_of, nested, row_of, some_trees)

TREES = SPECIAL + some_trees()
# The longest period that is still allowed for longest_wait, and the next one that a tree can have.
LONGEST = ((1, ((1, ((1, ((2, 'a'), (3, 'b'))), (9, 'c'))), (9, 'd'))), (9, 'e'))
TOO_LONG = ((4, ((2, ((3, ((2, 'a'), (3, 'b'))), (4, 'c'))), (9, 'd'))), (9, 'e'))


def short_trees(most):
    """Trees whose period is not too long to go through it."""
    return [tree for tree in TREES if period(tree) <= most]


def counts_of(tree, row):
    counts = Counter(row)
    return [counts[name] for name in names_of(tree)]


class InterfaceTest(unittest.TestCase):

    def test_arguments_and_home(self):
        signatures = {
            'names_endless': '(tree, many)', 'period': '(tree)', 'shares': '(tree)',
            'counts_endless': '(tree, many)', 'longest_wait': '(tree, name)',
        }
        for name, signature in signatures.items():
            with self.subTest(name):
                function = getattr(endless, name)
                self.assertEqual(str(inspect.signature(function)), signature)
                self.assertEqual(function.__module__, 'mixtrees.endless')

    def test_many_by_name(self):
        self.assertEqual(names_endless(B, many=6), names_endless(B, 6))
        self.assertEqual(counts_endless(B, many=6), counts_endless(B, 6))


class NamesEndlessTest(unittest.TestCase):

    def test_example(self):
        self.assertEqual(names_endless(B, 6), ['a', 'c', 'b', 'c', 'a', 'c'])

    def test_some_rows(self):
        self.assertEqual(names_endless(A, 8), list('aabaabaa'))
        self.assertEqual(names_endless(F, 5), list('abcab'))
        self.assertEqual(names_endless(G, 9), list('acccbccca'))
        self.assertEqual(names_endless(((2, ((1, 'a'), (2, 'b'))), (1, 'c')), 9), list('abcbacbbc'))

    def test_one_feed(self):
        for tree in ONE_FEED:
            self.assertEqual(names_endless(tree, 1000), names_of(tree) * 1000)

    def test_limits(self):
        for tree in SPECIAL:
            self.assertEqual(names_endless(tree, 0), [])
            self.assertEqual(names_endless(tree, 1), names_of(tree)[:1])
            self.assertEqual(names_endless(tree, 1000), row_of(tree, 1000))
            for many in (-1, 1001, 1002, True, False):
                self.assertRaises(InvalidNumber, names_endless, tree, many)

    def test_many_trees(self):
        for number, tree in enumerate(TREES):
            self.assertEqual(names_endless(tree, 300 + number), row_of(tree, 300 + number), tree)

    def test_new_list(self):
        check_new_list(self, names_endless, B, 6)
        check_new_list(self, names_endless, 'a', 1)
        self.assertIsNot(names_endless(B, 0), names_endless(B, 0))

    def test_wrong_arguments(self):
        check_wrong(self, names_endless, (B, 1000), [
            (InvalidTree, NOT_TREES), (InvalidNumber, BAD_NUMBERS + [1001, 1002, 10 ** 18])])


class PeriodTest(unittest.TestCase):

    def test_example(self):
        self.assertEqual([period(B), period(A)], [4, 3])

    def test_flat(self):
        self.assertEqual([period(F), period(flat('abcde', 9)), period(((9, 'a'), (1, 'b')))], [3, 45, 10])

    def test_nested(self):
        self.assertEqual(period(G), 8)
        # The inner mixer gives a whole period in each round.
        self.assertEqual(period(((2, flat('ab')), (1, 'c'))), 3)
        self.assertEqual(period(((4, flat('ab')), (1, 'c'))), 5)
        self.assertEqual(period(((6, ((1, 'a'), (2, 'b'))), (1, 'c'))), 7)
        # Not in each round.
        self.assertEqual(period(((3, flat('ab')), (1, 'c'))), 8)
        self.assertEqual(period(((6, flat('abcd')), (1, 'c' * 2))), 14)
        self.assertEqual(period(((1, flat('ab')), (1, flat('cde')))), 12)
        self.assertEqual(period(((1, flat('abcd')), (1, ((1, 'e'), (5, 'f'))))), 24)
        self.assertEqual(period(((2, flat('abcd')), (3, ((1, 'e'), (5, 'f'))))), 10)

    def test_one_feed_and_mixers_of_one_part(self):
        for tree in ONE_FEED:
            self.assertEqual(period(tree), 1)
        self.assertEqual(period(((5, A),)), 3)
        self.assertEqual(period(((2, ((7, flat('ab')),)), (1, ((8, 'c'),)))), 3)
        self.assertEqual(period(nested(3, flat('ab'))), 2)

    def test_four_levels(self):
        self.assertEqual([period(LONGEST), period(TOO_LONG)], [5000, 5005])
        self.assertEqual(period(DEEP[2]), 5 * 2 * 2 * 2)
        # From the inside: 31, 11 * 31, 11 * 11 * 31 and 10 * 11 * 11 * 31, as no weight has a divisor in common.
        self.assertEqual(period(DEEP[3]), 10 * 11 * 11 * 31)

    def test_repeats_itself_with_no_smaller_number(self):
        trees = short_trees(20000)
        self.assertGreater(len(trees), 100)
        for tree in trees:
            size = period(tree)
            row = row_of(tree, 3 * size)
            self.assertEqual(row[size:], row[:-size], tree)
            for smaller in range(1, size):
                self.assertNotEqual(row[smaller:smaller + size], row[:size], (tree, smaller))

    def test_all_small_trees(self):
        weights = range(1, 4)
        for one, two, three, four in itertools.product(weights, repeat=4):
            for tree in (
                    ((one, ((two, 'a'), (three, 'b'))), (four, 'c')),
                    ((one, 'a'), (two, ((three, 'b'), (four, 'c')))),
                    ((one, ((two, ((three, 'a'), (four, 'b'))), (1, 'c'))), (2, 'd'))):
                size = period(tree)
                row = row_of(tree, 1200)
                smallest = next(number for number in range(1, 600) if row[number:] == row[:-number])
                self.assertEqual(size, smallest, tree)

    def test_long_periods(self):
        # A period that is too long to be gone through still counts each feed a whole number of times.
        found = 0
        for tree in TREES:
            size = period(tree)
            found += size > 20000
            parts = [Fraction(*share) * size for share in shares(tree)]
            self.assertEqual([part.denominator for part in parts], [1] * len(parts))
        self.assertGreater(found, 2)

    def test_plain_tree_alike(self):
        for tree in TREES:
            self.assertEqual(period(plain(tree)), period(tree))

    def test_kind(self):
        self.assertEqual([type(period(B)), type(period('a'))], [int, int])

    def test_wrong_argument(self):
        check_wrong(self, period, (B,), [(InvalidTree, NOT_TREES)])


class SharesTest(unittest.TestCase):

    def test_example(self):
        self.assertEqual(shares(B), [(1, 4), (1, 4), (1, 2)])

    def test_some(self):
        self.assertEqual(shares(A), [(2, 3), (1, 3)])
        self.assertEqual(shares(G), [(1, 8), (1, 8), (3, 4)])
        self.assertEqual(shares(((2, 'a'), (4, 'b'))), [(1, 3), (2, 3)])
        self.assertEqual(shares(((6, ((4, 'a'), (8, 'b'))), (3, 'c'))), [(2, 9), (4, 9), (1, 3)])
        self.assertEqual(shares(LONGEST), [(1, 2500), (3, 5000), (9, 1000), (9, 100), (9, 10)])

    def test_one_feed_and_mixers_of_one_part(self):
        for tree in ONE_FEED:
            self.assertEqual(shares(tree), [(1, 1)])
        self.assertEqual(shares(((7, A),)), [(2, 3), (1, 3)])
        self.assertEqual(shares(((1, ((9, 'a'),)), (1, 'b'))), [(1, 2), (1, 2)])

    def test_lowest_terms(self):
        for tree in TREES:
            found = shares(tree)
            for share in found:
                self.assertEqual([type(share), len(share), type(share[0]), type(share[1])], [tuple, 2, int, int])
                self.assertGreaterEqual(min(share), 1)
                self.assertEqual(math.gcd(*share), 1)
            self.assertEqual(sum(Fraction(*share) for share in found), 1)

    def test_as_in_a_period(self):
        for tree in short_trees(20000):
            size = period(tree)
            counts = counts_of(tree, row_of(tree, size))
            self.assertEqual([Fraction(*share) for share in shares(tree)], [Fraction(count, size) for count in counts])

    def test_new_list(self):
        check_new_list(self, shares, B)
        check_new_list(self, shares, 'a')

    def test_wrong_argument(self):
        check_wrong(self, shares, (B,), [(InvalidTree, NOT_TREES)])


class CountsEndlessTest(unittest.TestCase):

    def test_example(self):
        self.assertEqual(
            counts_endless(B, 10 ** 15 + 1), [250000000000001, 250000000000000, 500000000000000])

    def test_some(self):
        self.assertEqual([counts_endless(A, many) for many in range(5)], [[0, 0], [1, 0], [2, 0], [2, 1], [3, 1]])
        self.assertEqual(counts_endless(G, 10 ** 18), [125 * 10 ** 15, 125 * 10 ** 15, 75 * 10 ** 16])

    def test_limits(self):
        for tree in SPECIAL:
            self.assertEqual(counts_endless(tree, 0), [0] * len(names_of(tree)))
            for many in (1, 10 ** 18 - 1, 10 ** 18):
                self.assertEqual(sum(counts_endless(tree, many)), many)
            for many in (-1, 10 ** 18 + 1, 10 ** 18 + 2, True, False):
                self.assertRaises(InvalidNumber, counts_endless, tree, many)

    def test_one_feed(self):
        for tree in ONE_FEED:
            self.assertEqual(counts_endless(tree, 10 ** 18), [10 ** 18])
            self.assertEqual(counts_endless(tree, 61), [61])

    def test_as_in_the_row(self):
        for number, tree in enumerate(TREES):
            row = row_of(tree, 700)
            for many in [*range(30), 60, 61, 480, 481, 600 + number % 100]:
                self.assertEqual(counts_endless(tree, many), counts_of(tree, row[:many]), (tree, many))

    def test_period_after_period(self):
        for tree in TREES:
            size = period(tree)
            in_period = counts_endless(tree, size)
            self.assertEqual(in_period, [top * size // bottom for top, bottom in shares(tree)])
            for times in (1, 2, 10 ** 18 // size - 1):
                for rest in (0, size // 3, size // 2, size - 1):
                    expected = [times * count + more for count, more in zip(in_period, counts_endless(tree, rest))]
                    self.assertEqual(counts_endless(tree, times * size + rest), expected, (tree, times, rest))

    def test_kinds(self):
        self.assertEqual([type(count) for count in counts_endless(B, 2)], [int, int, int])

    def test_new_list(self):
        check_new_list(self, counts_endless, B, 5)
        check_new_list(self, counts_endless, 'a', 0)

    def test_wrong_arguments(self):
        check_wrong(self, counts_endless, (B, 10 ** 18), [
            (InvalidTree, NOT_TREES), (InvalidNumber, BAD_NUMBERS + [10 ** 18 + 1, 10 ** 18 + 2, 10 ** 19])])


class LongestWaitTest(unittest.TestCase):

    def test_example(self):
        self.assertEqual([longest_wait(B, name) for name in ('a', 'c')], [3, 1])

    def test_some(self):
        self.assertEqual([longest_wait(A, 'a'), longest_wait(A, 'b')], [1, 2])
        self.assertEqual([longest_wait(F, name) for name in 'abc'], [2, 2, 2])
        self.assertEqual([longest_wait(G, name) for name in 'abc'], [7, 7, 1])
        self.assertEqual(longest_wait(((9, 'a'), (1, 'b')), 'b'), 9)
        # The row is abc bac bbc: a waits within a period, and longer into the next one.
        tree = ((2, ((1, 'a'), (2, 'b'))), (1, 'c'))
        self.assertEqual([longest_wait(tree, name) for name in 'abc'], [4, 2, 2])

    def test_one_feed_and_mixers_of_one_part(self):
        for tree in ONE_FEED:
            self.assertEqual(longest_wait(tree, names_of(tree)[0]), 0)
        self.assertEqual(longest_wait(nested(3, flat('abcde')), 'c'), 4)

    def test_as_in_the_row(self):
        for tree in short_trees(5000):
            row = row_of(tree, 3 * period(tree))
            for name in names_of(tree):
                places = [place for place, found in enumerate(row) if found == name]
                wait = max(after - before - 1 for before, after in zip(places, places[1:]))
                self.assertEqual(longest_wait(tree, name), wait, (tree, name))

    def test_longest_period(self):
        self.assertTrue(is_tree(LONGEST))
        self.assertEqual([longest_wait(LONGEST, name) for name in 'abcde'], [3999, 2999, 199, 19, 1])

    def test_too_long(self):
        trees = [TOO_LONG, DEEP[3]] + [tree for tree in TREES if period(tree) > 5000]
        self.assertGreater(len(trees), 10)
        for tree in trees:
            for name in names_of(tree):
                self.assertRaises(TooLong, longest_wait, tree, name)

    def test_wrong_arguments(self):
        check_wrong(self, longest_wait, (B, 'c'), [(InvalidTree, NOT_TREES), (InvalidName, BAD_NAMES)])

    def test_a_wrong_name_before_too_long(self):
        for name in BAD_NAMES:
            # The tree has a feed called d.
            if name != 'd':
                self.assertIs(error_of(longest_wait, (TOO_LONG, name)), InvalidName)
        self.assertRaises(InvalidName, longest_wait, TOO_LONG, 'f')

    def test_kind(self):
        self.assertEqual([type(longest_wait(B, 'a')), type(longest_wait('a', 'a'))], [int, int])


class BeginningTest(unittest.TestCase):

    def test_begins_as_feeds_that_are_long_enough(self):
        for tree in TREES:
            full = (60,) * len(names_of(tree))
            output = [name for name, index in mixed(tree, full)]
            # Until a feed would have to give more than it has.
            many = max(number for number in range(len(output) + 1) if max(counts_endless(tree, number)) <= 60)
            self.assertGreaterEqual(many, 60)
            self.assertEqual(names_endless(tree, many), output[:many], tree)


class ArgumentsTest(unittest.TestCase):

    def test_arguments_stay_as_they_are(self):
        tree = [(1, 'a'), [1, ['b']]]
        other = ['a', [0]]
        before = copy.deepcopy([tree, other])
        for function in (names_endless, counts_endless, longest_wait):
            self.assertRaises(InvalidTree, function, tree, other)
        for function in (period, shares):
            self.assertRaises(InvalidTree, function, tree)
        for function in (names_endless, counts_endless):
            self.assertRaises(InvalidNumber, function, B, other)
        self.assertRaises(InvalidName, longest_wait, B, other)
        self.assertEqual([tree, other], before)

    def test_a_call_changes_no_later_result(self):
        calls = [(names_endless, B, 9), (period, B), (shares, B), (counts_endless, B, 9), (longest_wait, B, 'a')]
        before = [function(*arguments) for function, *arguments in calls]
        self.assertRaises(InvalidNumber, names_endless, B, 1001)
        self.assertRaises(TooLong, longest_wait, TOO_LONG, 'a')
        self.assertEqual([function(*arguments) for function, *arguments in calls], before)
