import copy
import inspect
import itertools
import random
import unittest

from mixtrees import comparing
from mixtrees.comparing import difference, same_always, same_endless
from mixtrees.endless import period
from mixtrees.errors import InvalidTree, OtherFeeds, TooLong
from mixtrees.trees import is_tree, plain, restricted
from tests.helper import (
    A, B, DEEP, F, G, NOT_TREES, ONE_FEED, SINGLE_PARTS, SPECIAL, by_rounds, check_wrong, error_of, flat, names_of,
    nested, plain_trees, row_of, some_trees)

# All 240 trees of the feeds a, b and c with weights of 1 and 2 and without mixers of one part.
THREE_FEEDS = [tree for names in itertools.permutations('abc') for tree in plain_trees(names, (1, 2))]
# The longest period that is still allowed, and some that are not.
LONGEST = ((1, ((1, ((1, ((2, 'a'), (3, 'b'))), (9, 'c'))), (9, 'd'))), (9, 'e'))
TOO_LONG = ((4, ((2, ((3, ((2, 'a'), (3, 'b'))), (4, 'c'))), (9, 'd'))), (9, 'e'))


def outputs(one, other, lengths):
    """The outputs of two trees with lengths in the order of the feeds of the first one."""
    by_name = dict(zip(names_of(one), lengths))
    return by_rounds(one, lengths), by_rounds(other, tuple(by_name[name] for name in names_of(other)))


def changed(tree, source):
    """A tree with the same feeds that differs a little, or not at all."""
    if isinstance(tree, str):
        return source.choice([tree, ((source.randint(1, 9), tree),)])
    parts = list(tree)
    at = source.randrange(len(parts))
    weight, part = parts[at]
    kind = source.randrange(5)
    if kind == 0:
        parts[at] = (source.randint(1, 9), part)
    elif kind == 1:
        parts.insert(source.randrange(len(parts)), parts.pop(at))
    elif kind == 2 and not isinstance(part, str):
        parts[at:at + 1] = part
    elif kind == 3:
        end = source.randint(at + 1, len(parts))
        parts[at:end] = [(source.randint(1, 9), tuple(parts[at:end]))]
    else:
        parts[at] = (weight, changed(part, source))
    return tuple(parts)


def some_pairs(many):
    """Always the same pairs of trees with the same feeds, most of them with a small difference."""
    source = random.Random(11)
    pairs = []
    for tree in SPECIAL + some_trees(many):
        for number in range(3):
            other = tree
            for step in range(source.randint(1, 3)):
                other = changed(other, source)
            if is_tree(other):
                pairs.append((tree, other))
    return pairs


class InterfaceTest(unittest.TestCase):

    def test_arguments_and_home(self):
        for function in (same_always, difference, same_endless):
            with self.subTest(function.__name__):
                self.assertEqual(str(inspect.signature(function)), '(one, other)')
                self.assertEqual(function.__module__, 'mixtrees.comparing')
                self.assertIs(getattr(comparing, function.__name__), function)


class SameAlwaysTest(unittest.TestCase):

    def test_example(self):
        self.assertEqual([same_always(B, F), same_always(B, ((1, B),))], [False, True])

    def test_equal_trees(self):
        for tree in SPECIAL + some_trees():
            self.assertIs(same_always(tree, copy.deepcopy(tree)), True)

    def test_one_feed(self):
        for one, other in itertools.product(('a', ((9, 'a'),), ((1, 'a'),), nested(4, 'a')), repeat=2):
            self.assertIs(same_always(one, other), True)
            self.assertIs(same_always(one, 'b'), False)
            self.assertIs(same_always(A, one), False)

    def test_mixers_of_one_part(self):
        for tree in SINGLE_PARTS + ONE_FEED:
            self.assertIs(same_always(tree, plain(tree)), True)
            self.assertIs(same_always(plain(tree), tree), True)
        self.assertIs(same_always(((3, ((2, 'a'),)), (1, 'b')), ((3, 'a'), (1, 'b'))), True)
        # The weight of the mixer counts, not the weight within it.
        self.assertIs(same_always(((3, ((2, 'a'),)), (1, 'b')), ((2, 'a'), (1, 'b'))), False)

    def test_the_same_feeds_in_another_order(self):
        for one, other in itertools.permutations(itertools.permutations('abc'), 2):
            self.assertIs(same_always(flat(one), flat(other)), False)
        self.assertIs(same_always(A, A[::-1]), False)
        self.assertIs(same_always(B, B[::-1]), False)

    def test_other_feeds(self):
        for one, other in (
                ('a', 'b'), (A, F), (F, A), (A, ((2, 'a'), (1, 'c'))), (A, ((2, 'a'), (1, 'bb'))), (B, 'a'),
                (F, flat('abd')), (F, flat('abcd'))):
            self.assertIs(same_always(one, other), False)
            self.assertIs(same_always(other, one), False)

    def test_other_weights(self):
        for one, other in itertools.product(itertools.product(range(1, 10), repeat=2), repeat=2):
            trees = [tuple(zip(weights, 'ab')) for weights in (one, other)]
            self.assertIs(same_always(*trees), one == other)
        # No common divisor makes two mixers the same.
        self.assertIs(same_always(((2, 'a'), (2, 'b')), flat('ab')), False)

    def test_equal_rows_are_not_enough(self):
        self.assertIs(same_always(((2, flat('ab')), (1, 'c')), F), False)

    def test_by_all_outputs(self):
        # Three items are more than the weights of 1 and 2, so every turn shows with some of these lengths.
        kinds = {}
        for tree in THREE_FEEDS + [nested(1, tree) for tree in THREE_FEEDS]:
            rows = []
            for lengths in itertools.product(range(4), repeat=3):
                by_name = dict(zip('abc', lengths))
                rows.append(tuple(by_rounds(tree, tuple(by_name[name] for name in names_of(tree)))))
            kinds.setdefault(tuple(rows), []).append(tree)
        self.assertEqual(len(kinds), 240)
        groups = list(kinds.values())
        for group in groups:
            for one, other in itertools.product(group, repeat=2):
                self.assertIs(same_always(one, other), True, (one, other))
        for one, other in list(itertools.permutations(groups, 2))[::5]:
            self.assertIs(same_always(one[0], other[-1]), False, (one, other))

    def test_wrong_arguments(self):
        check_wrong(self, same_always, (B, F), [(InvalidTree, NOT_TREES), (InvalidTree, NOT_TREES)])


class DifferenceTest(unittest.TestCase):

    def check_difference(self, one, other):
        """Checks what is returned, and whether it has to be None."""
        found = difference(one, other)
        if plain(one) == plain(other):
            self.assertIsNone(found)
            self.assertIs(same_always(one, other), True)
            return None
        self.assertIs(same_always(one, other), False)
        self.assertIs(type(found), tuple)
        self.assertEqual([type(length) for length in found], [int] * len(names_of(one)))
        self.assertLessEqual(len([length for length in found if length > 0]), 3, (one, other))
        self.assertGreaterEqual(min(found), 0)
        self.assertLessEqual(max(found), 20)
        first, second = outputs(one, other, found)
        self.assertNotEqual(first, second, (one, other, found))
        return found

    def test_example(self):
        self.assertEqual([difference(B, B), sum(difference(B, F)) > 0], [None, True])
        self.check_difference(B, F)
        self.check_difference(F, B)

    def test_none(self):
        for tree in SPECIAL + some_trees(40):
            self.assertIsNone(difference(tree, copy.deepcopy(tree)))
            self.assertIsNone(difference(tree, plain(tree)))
            self.assertIsNone(difference(plain(tree), tree))

    def test_one_feed(self):
        for one, other in itertools.product(('a', ((9, 'a'),), ((1, 'a'),), nested(4, 'a')), repeat=2):
            self.assertIsNone(difference(one, other))

    def test_two_feeds(self):
        weights = list(itertools.product((1, 2, 8, 9), repeat=2))
        trees = [tuple(zip(row, names)) for row in weights for names in ('ab', 'ba')]
        for one, other in itertools.product(trees, repeat=2):
            self.check_difference(one, other)

    def test_three_feeds(self):
        for number, (one, other) in enumerate(itertools.product(THREE_FEEDS, repeat=2)):
            if number % 11 == 0:
                self.check_difference(one, other)

    def test_great_weights(self):
        trees = plain_trees('abc', (8, 9)) + plain_trees('abc', (1, 9))[::3]
        for number, (one, other) in enumerate(itertools.product(trees, repeat=2)):
            if number % 3 == 0:
                self.check_difference(one, other)

    def test_in_the_order_of_the_first_tree(self):
        one = ((1, 'c'), (1, 'b'), (2, 'a'), (1, 'd'))
        other = ((1, 'd'), (2, 'a'), (1, 'c'), (1, 'b'))
        for first, second in ((one, other), (other, one)):
            self.check_difference(first, second)
        # The feeds a and z make the only difference, and they are at other places in the two trees.
        one = ((1, ((2, 'a'), (1, 'z'))), (1, flat('bcd')))
        other = ((1, ((3, 'a'), (1, 'z'))), (1, flat('bcd')))
        for first, second in ((one, other), (other, one)):
            found = dict(zip(names_of(first), self.check_difference(first, second)))
            self.assertGreater(min(found['a'], found['z']), 0)

    def test_trees_that_agree_for_every_two_feeds(self):
        for weight, more in itertools.product((1, 2, 5, 9), repeat=2):
            left = ((weight, flat('ab', weight)), (more, 'c'))
            both = ((weight, 'a'), (weight, 'b'), (more, 'c'))
            right = ((more, 'c'), (weight, flat('ab', weight)))
            turned = ((more, 'c'), (weight, 'a'), (weight, 'b'))
            chain = ((weight, ((weight, 'a'), (more, 'b'))), (more, 'c'))
            other_chain = ((weight, 'a'), (more, ((weight, 'b'), (more, 'c'))))
            for one, other in ((left, both), (right, turned), (chain, other_chain)):
                for names in itertools.combinations('abc', 2):
                    self.assertEqual(restricted(one, names), restricted(other, names))
                for first, second in ((one, other), (other, one), (nested(1, one), other)):
                    found = self.check_difference(first, second)
                    self.assertEqual(len([length for length in found if length > 0]), 3)

    def test_three_of_eight_feeds(self):
        one = ((1, flat('abcd')), (1, ((1, flat('ef')), (1, 'g'), (1, 'h'))))
        other = ((1, flat('abcd')), (1, ((1, 'e'), (1, 'f'), (1, 'g'), (1, 'h'))))
        for first, second in ((one, other), (other, one)):
            found = self.check_difference(first, second)
            self.assertEqual(found[:4], (0, 0, 0, 0))

    def test_every_weight_of_deep_trees(self):
        for tree in DEEP:
            for other in with_one_more(tree):
                self.check_difference(tree, other)
                self.check_difference(other, tree)

    def test_small_changes(self):
        pairs = some_pairs(80)
        self.assertGreater(len(pairs), 200)
        found = [self.check_difference(one, other) for one, other in pairs]
        self.assertGreater(found.count(None), 10)
        self.assertGreater(len(found) - found.count(None), 100)

    def test_other_feeds(self):
        for one, other in (
                ('a', 'b'), ('a', A), (A, F), (A, ((2, 'a'), (1, 'c'))), (A, ((2, 'a'), (1, 'bb'))), (B, 'b'),
                (F, flat('abd')), (F, flat('abcd')), (DEEP[0], flat('abcde')), (nested(2, 'a'), nested(2, 'b'))):
            self.assertRaises(OtherFeeds, difference, one, other)
            self.assertRaises(OtherFeeds, difference, other, one)

    def test_wrong_arguments(self):
        check_wrong(self, difference, (B, F), [(InvalidTree, NOT_TREES), (InvalidTree, NOT_TREES)])


def with_one_more(tree):
    """The trees in which one weight is greater by one, or 1 in place of 9."""
    if isinstance(tree, str):
        return []
    found = []
    for at, (weight, part) in enumerate(tree):
        for pair in [(weight % 9 + 1, part)] + [(weight, inner) for inner in with_one_more(part)]:
            found.append(tree[:at] + (pair,) + tree[at + 1:])
    return found


class SameEndlessTest(unittest.TestCase):

    def test_example(self):
        self.assertIs(same_endless(((2, ((1, 'a'), (1, 'b'))), (1, 'c')), F), True)

    def test_rows_that_are_equal_although_the_trees_differ(self):
        for one, other in (
                (((1, 'a'), (2, flat('bc'))), F),
                (((2, flat('ab')), (1, 'c')), ((1, 'a'), (2, flat('bc')))),
                (((3, A), (2, 'c')), ((2, 'a'), (1, 'b'), (2, 'c'))),
                (((2, 'a'), (3, ((1, 'b'), (2, 'c')))), ((3, ((2, 'a'), (1, 'b'))), (2, 'c'))),
                (((1, 'a'), (4, flat('bc', 2))), ((1, 'a'), (2, 'b'), (2, 'c')))):
            self.assertEqual(row_of(one, 60), row_of(other, 60))
            self.assertIs(same_endless(one, other), True)
            self.assertIs(same_endless(other, one), True)
            self.assertIs(same_always(one, other), False)

    def test_equal_trees_and_mixers_of_one_part(self):
        for tree in SPECIAL:
            if period(tree) <= 5000:
                self.assertIs(same_endless(tree, tree), True)
                self.assertIs(same_endless(tree, plain(tree)), True)
        for one, other in itertools.product(('a', ((9, 'a'),), nested(4, 'a')), repeat=2):
            self.assertIs(same_endless(one, other), True)
            self.assertIs(same_endless(one, 'b'), False)

    def test_another_order(self):
        for one, other in itertools.permutations(itertools.permutations('abc'), 2):
            self.assertIs(same_endless(flat(one), flat(other)), False)

    def test_other_feeds(self):
        for one, other in (('a', 'b'), (A, F), (A, ((2, 'a'), (1, 'c'))), (F, flat('abd')), (B, ((1, B), (1, 'd')))):
            self.assertIs(same_endless(one, other), False)
            self.assertIs(same_endless(other, one), False)

    def test_a_row_that_goes_on_otherwise(self):
        # The first one is abc abc abc, the other one abc acb acc.
        other = ((1, 'a'), (2, ((1, 'b'), (2, 'c'))))
        self.assertEqual([period(F), period(other)], [3, 9])
        self.assertIs(same_endless(F, other), False)
        self.assertIs(same_endless(other, F), False)

    def test_equal_periods(self):
        # Both have the period 9, and begin with abc acb acc and abc bab cbb.
        one = ((1, 'a'), (2, ((1, 'b'), (2, 'c'))))
        other = ((2, ((1, 'a'), (2, 'b'))), (1, 'c'))
        self.assertEqual([period(one), period(other)], [9, 9])
        self.assertIs(same_endless(one, other), False)
        # A difference that shows only near the end of the period.
        one = ((9, ((9, 'a'), (8, 'b'), (1, 'c'))), (1, 'd'))
        other = ((9, ((9, 'a'), (8, 'b'), (1, 'd'))), (1, 'c'))
        self.assertEqual(row_of(one, 9), row_of(other, 9))
        self.assertIs(same_endless(one, other), False)

    def test_a_late_difference(self):
        one = ((9, ((8, ((9, 'a'), (1, 'b'))), (1, 'c'))), (1, 'd'))
        other = ((9, ((8, ((9, 'a'), (2, 'b'))), (1, 'c'))), (1, 'd'))
        rows = row_of(one, 2000), row_of(other, 2000)
        first = [place for place, (name, second) in enumerate(zip(*rows)) if name != second][0]
        self.assertGreater(first, 10)
        self.assertIs(same_endless(one, other), False)
        self.assertIs(same_endless(other, one), False)

    def test_by_the_rows(self):
        rows = {tree: tuple(row_of(tree, 200)) for tree in THREE_FEEDS}
        equal = 0
        for number, (one, other) in enumerate(itertools.product(THREE_FEEDS, repeat=2)):
            # Two rows with periods of at most 24 that agree for 200 names agree always.
            same = rows[one] == rows[other]
            if same or number % 7 == 0:
                self.assertIs(same_endless(one, other), same, (one, other))
                equal += one != other and same
        self.assertGreater(equal, 10)

    def test_small_changes(self):
        for one, other in some_pairs(60):
            sizes = period(one), period(other)
            if max(sizes) <= 3000:
                same = row_of(one, sum(sizes)) == row_of(other, sum(sizes))
                self.assertIs(same_endless(one, other), same, (one, other))

    def test_longest_period(self):
        self.assertEqual(period(LONGEST), 5000)
        self.assertIs(same_endless(LONGEST, LONGEST), True)
        self.assertIs(same_endless(LONGEST, A), False)
        self.assertIs(same_endless(A, LONGEST), False)
        # Only the inner feeds are turned, so the rows agree for a long time.
        other = ((1, ((1, ((1, ((3, 'a'), (2, 'b'))), (9, 'c'))), (9, 'd'))), (9, 'e'))
        self.assertEqual(period(other), 5000)
        self.assertEqual(row_of(LONGEST, 2000), row_of(other, 2000))
        self.assertIs(same_endless(LONGEST, other), False)
        self.assertIs(same_endless(other, LONGEST), False)

    def test_too_long(self):
        self.assertEqual(period(TOO_LONG), 5005)
        for long in (TOO_LONG, DEEP[3]):
            self.assertGreater(period(long), 5000)
            # Also if the feeds differ, or if the trees are equal.
            for tree in (long, 'a', 'x', A, F, LONGEST, flat('abcde')):
                self.assertRaises(TooLong, same_endless, long, tree)
                self.assertRaises(TooLong, same_endless, tree, long)

    def test_wrong_arguments(self):
        check_wrong(self, same_endless, (B, F), [(InvalidTree, NOT_TREES), (InvalidTree, NOT_TREES)])
        for value in NOT_TREES:
            self.assertIs(error_of(same_endless, (TOO_LONG, value)), InvalidTree)
            self.assertIs(error_of(same_endless, (value, TOO_LONG)), InvalidTree)


class ArgumentsTest(unittest.TestCase):

    def test_arguments_stay_as_they_are(self):
        value = [(1, 'a'), [1, ['b']]]
        before = copy.deepcopy(value)
        for function in (same_always, difference, same_endless):
            self.assertRaises(InvalidTree, function, value, value)
            self.assertRaises(InvalidTree, function, B, value)
        self.assertEqual(value, before)

    def test_a_call_changes_no_later_result(self):
        calls = [(function, one, other) for function in (same_always, difference, same_endless)
                 for one, other in ((B, F), (F, B), (G, G), (B, ((1, B),)))]
        before = [function(one, other) for function, one, other in calls]
        self.assertRaises(OtherFeeds, difference, A, F)
        self.assertRaises(TooLong, same_endless, A, TOO_LONG)
        self.assertEqual([function(one, other) for function, one, other in calls], before)
