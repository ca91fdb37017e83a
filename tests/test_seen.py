import copy
import inspect
import itertools
import unittest

from mixtrees import seen as module
from mixtrees.errors import InvalidName, InvalidSeen, InvalidTree
from mixtrees.mixing import mixed
from mixtrees.seen import ended, fillings, lengths_for, weights_for
from tests.helper import (
    A, B, BAD_SEEN, DEEP, F, G, NOT_TREES, ODD_VALUES, ONE_FEED, SINGLE_PARTS, SPECIAL, all_lengths, by_rounds,
    check_new_list, check_wrong, error_of, flat, names_by_rounds, names_of, nested, some_lengths, some_trees)

CHAIN = ((2, 'a'), (1, ((1, 'b'), (2, 'c'))))
SMALL = ['a', ((9, 'a'),), A, nested(2, A), B, F, G, CHAIN, SINGLE_PARTS[2], SINGLE_PARTS[3]]
FOUR_FEEDS = ((2, ((1, 'a'), (2, 'b'))), (1, ((2, 'c'), (1, 'd'))))

WITH_NONE = [(None,), ('a', None), (None, 'a'), ('a', 'c', None, 'b')]

# Values that are not 2 or 3 different names of feeds.
BAD_PAIRS = [value for value in ODD_VALUES if value not in (('a', 'b'), ('aa', 'bb'))] + [
    (), ('a',), ('b',), ('a', 'b', 'c', 'd'), tuple('abcde'), ('a',) * 2, ('a', 'b', 'a'), ('a', 'a', 'b'), ('b', 'a', 'a'),
    ('a', 'a', 'a'), ['a', 'b'], ['a', 'b', 'c'], 'ab', 'abc', ('a', ''), ('', 'b'), ('a', 'abcdefg'), ('A', 'b'),
    ('a', 'b', 'C'), ('a', 'b '), ('a', 'b1'), ('a', None), (None, 'b'), (None, None), ('a', 'b', None), ('a', 1), (1, 2),
    (True, 'b'), ('a', ('b',)), ('a', ['b']), (['a'], ['b']), ((1, 'a'), (1, 'b')), {'a': 1, 'b': 1}, 0, 2, 3,
    ('a', 'b', ODD_VALUES[-1]), ('a', ODD_VALUES[-2]),
]


def all_seen(tree, many):
    """All tuples of so many names of feeds."""
    return itertools.product(names_of(tree), repeat=many)


def whole_outputs(tree, many):
    """The lengths for each whole output of so many items, by the names of its feeds."""
    return {names_by_rounds(tree, lengths): lengths for lengths in all_lengths(len(names_of(tree)), many)}


def some_rows():
    """Pairs of a tree and the beginning of an output with some lengths, of at most 60 names."""
    rows = []
    for number, tree in enumerate(SPECIAL * 2 + some_trees(60)):
        row = names_by_rounds(tree, some_lengths(tree, number))
        rows.append((tree, row[:(60, 7, 20)[number % 3]]))
    return rows


def ended_by_all_lengths(tree, seen, most):
    """What ended has to return, by all lengths up to a limit."""
    names = names_of(tree)
    cases = []
    for lengths in itertools.product(range(most + 1), repeat=len(names)):
        if names_by_rounds(tree, lengths)[:len(seen)] == seen:
            cases.append(lengths)
    if not cases:
        return None
    return [name for at, name in enumerate(names) if all(case[at] == seen.count(name) for case in cases)]


class InterfaceTest(unittest.TestCase):

    def test_arguments_and_home(self):
        signatures = {
            'lengths_for': '(tree, seen)', 'ended': '(tree, seen)', 'fillings': '(tree, seen)',
            'weights_for': '(names, seen)',
        }
        for name, signature in signatures.items():
            with self.subTest(name):
                function = getattr(module, name)
                self.assertEqual(str(inspect.signature(function)), signature)
                self.assertEqual(function.__module__, 'mixtrees.seen')


class LengthsForTest(unittest.TestCase):

    def test_example(self):
        self.assertEqual(lengths_for(B, ('a', 'c', 'b', 'c', 'a', 'b')), (2, 2, 2))

    def test_none(self):
        for seen in (('c', 'a'), ('b', 'a'), ('c', 'b'), ('a', 'c', 'a', 'c', 'b'), ('a', 'c', 'b', 'c', 'b', 'a')):
            self.assertIsNone(lengths_for(B, seen))
        for seen in (('a', 'b', 'a'), ('b', 'a'), ('a', 'a', 'a', 'b')):
            self.assertIsNone(lengths_for(A, seen))

    def test_no_names(self):
        for tree in SPECIAL:
            self.assertEqual(lengths_for(tree, ()), (0,) * len(names_of(tree)))

    def test_one_feed(self):
        for tree in ONE_FEED:
            name = names_of(tree)[0]
            for many in (0, 1, 9, 10, 59, 60):
                self.assertEqual(lengths_for(tree, (name,) * many), (many,))
            for many in (61, 62, 80):
                self.assertRaises(InvalidSeen, lengths_for, tree, (name,) * many)

    def test_sixty_names(self):
        self.assertEqual(lengths_for(A, ('a', 'a', 'b') * 20), (40, 20))
        self.assertEqual(lengths_for(A, ('b',) * 60), (0, 60))
        self.assertEqual(lengths_for(F, ('a', 'b', 'c') * 20), (20, 20, 20))
        self.assertRaises(InvalidSeen, lengths_for, A, ('a', 'a', 'b') * 20 + ('a',))
        # A wrong row is not a wrong argument.
        self.assertIsNone(lengths_for(A, ('a', 'b') * 30))
        self.assertRaises(InvalidSeen, lengths_for, A, ('a', 'b') * 30 + ('a',))

    def test_in_the_order_of_the_tree(self):
        tree = ((1, 'z'), (2, ((1, 'b'), (1, 'a'))), (1, 'c'))
        self.assertEqual(lengths_for(tree, ('z', 'b', 'a', 'z', 'a', 'a')), (2, 1, 3, 0))

    def test_all_lengths_of_small_trees(self):
        for tree in SMALL + [FOUR_FEEDS]:
            for many in range(6):
                expected = whole_outputs(tree, many)
                for seen in all_seen(tree, many):
                    self.assertEqual(lengths_for(tree, seen), expected.get(seen), (tree, seen))

    def test_outputs_of_many_trees(self):
        for number, tree in enumerate(SPECIAL + some_trees()):
            lengths = some_lengths(tree, number)
            while sum(lengths) > 60:
                lengths = tuple(length // 2 for length in lengths)
            seen = tuple(name for name, index in mixed(tree, lengths))
            self.assertEqual(lengths_for(tree, seen), lengths)

    def test_two_names_exchanged(self):
        for tree, seen in some_rows():
            for at in range(0, len(seen) - 1, 5):
                other = seen[:at] + (seen[at + 1], seen[at]) + seen[at + 2:]
                lengths = tuple(other.count(name) for name in names_of(tree))
                expected = lengths if names_by_rounds(tree, lengths) == other else None
                self.assertEqual(lengths_for(tree, other), expected)

    def test_kinds(self):
        found = lengths_for(B, ('a', 'c'))
        self.assertEqual([type(found)] + [type(length) for length in found], [tuple, int, int, int])

    def test_wrong_arguments(self):
        check_wrong(self, lengths_for, (B, ('a', 'c')), [(InvalidTree, NOT_TREES), (InvalidSeen, BAD_SEEN + WITH_NONE)])


class EndedTest(unittest.TestCase):

    def test_example(self):
        self.assertEqual(
            [ended(B, ('a', 'c', 'b', 'c', 'b')), ended(B, ('a', 'c', 'b')), ended(B, ('b', 'a'))],
            [['a'], [], None])

    def test_no_names(self):
        for tree in SPECIAL:
            self.assertEqual(ended(tree, ()), [])

    def test_passed_over_at_the_beginning(self):
        self.assertEqual([ended(F, ('a',)), ended(F, ('b',)), ended(F, ('c',))], [[], ['a'], ['a', 'b']])
        self.assertEqual([ended(B, ('b',)), ended(B, ('c',))], [['a'], ['a', 'b']])

    def test_left_early(self):
        self.assertEqual([ended(A, ('a', 'b')), ended(A, ('a', 'a', 'b'))], [['a'], []])
        # The feed had items, and its last one was taken amid its weight.
        self.assertEqual(ended(A, ('a', 'a', 'b', 'a', 'b')), ['a'])
        self.assertEqual(ended(A, ('a', 'a', 'b', 'a', 'b', 'b', 'b')), ['a'])

    def test_back_at_the_same_part(self):
        self.assertEqual([ended(A, ('a', 'a')), ended(A, ('a', 'a', 'a'))], [[], ['b']])
        self.assertEqual([ended(A, ('b',)), ended(A, ('b', 'b'))], [['a'], ['a']])
        self.assertEqual(ended(G, ('c', 'c', 'c', 'c')), ['a', 'b'])

    def test_an_ended_feed_that_comes_again(self):
        for seen in (('b', 'a'), ('a', 'b', 'a'), ('a', 'a', 'a', 'b'), ('a', 'a', 'b', 'a', 'b', 'b', 'a')):
            self.assertIsNone(ended(A, seen))

    def test_a_whole_part(self):
        # The inner mixer is passed over, so both of its feeds have ended.
        self.assertEqual(ended(B, ('a', 'c', 'b', 'c', 'c')), ['a', 'b'])
        self.assertEqual(ended(B, ('a', 'c', 'c')), ['a', 'b'])
        self.assertEqual(ended(B, ('a', 'b')), ['c'])

    def test_in_the_order_of_the_tree(self):
        self.assertEqual(ended(flat('zyxa'), ('a',)), ['z', 'y', 'x'])
        self.assertEqual(ended(((1, 'b'), (1, flat('dc')), (1, 'a')), ('a', 'a')), ['b', 'd', 'c'])

    def test_one_feed(self):
        for tree in ONE_FEED:
            for many in (0, 1, 10, 60):
                self.assertEqual(ended(tree, tuple(names_of(tree)) * many), [])

    def test_all_lengths_of_small_trees(self):
        for tree in SMALL:
            for many in range(6):
                for seen in all_seen(tree, many):
                    if len(names_of(tree)) < 3 or many < 5:
                        expected = ended_by_all_lengths(tree, seen, many + 1)
                        self.assertEqual(ended(tree, seen), expected, (tree, seen))

    def test_lengths_far_above_the_seen_ones(self):
        for tree in (A, B, CHAIN):
            for many in range(4):
                for seen in all_seen(tree, many):
                    self.assertEqual(ended(tree, seen), ended_by_all_lengths(tree, seen, 9), (tree, seen))

    def test_sixty_names(self):
        # Whether a feed goes on is told by lengths above 60.
        self.assertEqual(ended(A, ('b',) * 60), ['a'])
        self.assertEqual(ended(A, ('a',) * 60), ['b'])
        self.assertEqual(ended(A, ('a', 'b') + ('b',) * 58), ['a'])
        self.assertEqual(ended(A, ('a', 'a', 'b') * 20), [])
        self.assertEqual(ended(((1, 'a'), (1, 'b'), (1, 'c')), ('c',) * 60), ['a', 'b'])
        for tree in DEEP:
            names = names_of(tree)
            for name in names:
                expected = [other for other in names if other != name]
                self.assertEqual(ended(tree, (name,) * 60), expected)
        self.assertRaises(InvalidSeen, ended, A, ('b',) * 61)

    def test_lengths_above_sixty(self):
        for tree in (A, B, G, CHAIN):
            names = names_of(tree)
            for lengths in itertools.product((0, 1, 7, 70), repeat=len(names)):
                seen = names_by_rounds(tree, lengths)[:60]
                least = tuple(seen.count(name) for name in names)
                cases = [case for case in itertools.product(*[(low, low + 1, low + 63) for low in least])
                         if names_by_rounds(tree, case)[:len(seen)] == seen]
                expected = [name for at, name in enumerate(names) if all(case[at] == least[at] for case in cases)]
                self.assertEqual(ended(tree, seen), expected, (tree, lengths))

    def test_many_trees(self):
        for tree, seen in some_rows():
            names = names_of(tree)
            least = [seen.count(name) for name in names]
            expected = []
            for at, name in enumerate(names):
                longer = tuple(low + (at == own) for own, low in enumerate(least))
                if names_by_rounds(tree, longer)[:len(seen)] != seen:
                    expected.append(name)
            self.assertEqual(ended(tree, seen), expected, (tree, seen))

    def test_all_others_may_go_on_at_once(self):
        for tree, seen in some_rows():
            over = ended(tree, seen)
            lengths = tuple(seen.count(name) + 70 * (name not in over) for name in names_of(tree))
            self.assertEqual(names_by_rounds(tree, lengths)[:len(seen)], seen, (tree, seen))

    def test_none_just_if_there_are_no_lengths(self):
        for tree in SMALL + [FOUR_FEEDS]:
            for seen in all_seen(tree, 5):
                self.assertEqual(ended(tree, seen) is None, lengths_for(tree, seen) is None, (tree, seen))

    def test_new_list(self):
        check_new_list(self, ended, B, ('a', 'c', 'b', 'c', 'b'))
        self.assertIsNot(ended(B, ()), ended(B, ()))
        self.assertIs(type(ended(B, ())), list)

    def test_wrong_arguments(self):
        check_wrong(self, ended, (B, ('a', 'c')), [(InvalidTree, NOT_TREES), (InvalidSeen, BAD_SEEN + WITH_NONE)])


class FillingsTest(unittest.TestCase):

    def test_example(self):
        self.assertEqual(fillings(B, ('a', None, 'b')), [('a', 'b', 'b'), ('a', 'c', 'b')])

    def test_nothing_to_fill_in(self):
        self.assertEqual(fillings(B, ()), [()])
        self.assertEqual(fillings(B, ('a', 'c', 'b')), [('a', 'c', 'b')])
        self.assertEqual(fillings(B, ('b', 'a')), [])
        self.assertEqual(fillings('a', ()), [()])

    def test_no_way_to_fill_in(self):
        self.assertEqual(fillings(A, ('b', None, 'a')), [])
        self.assertEqual(fillings(A, ('b', 'a', None, None, None, None)), [])

    def test_one_feed(self):
        for tree in ONE_FEED:
            name = names_of(tree)[0]
            for many in range(5):
                self.assertEqual(fillings(tree, (None,) * many), [(name,) * many])
            self.assertEqual(fillings(tree, (name,) * 56 + (None,) * 4), [(name,) * 60])

    def test_only_none(self):
        self.assertEqual(fillings(A, (None,)), [('a',), ('b',)])
        self.assertEqual(fillings(A, (None, None)), [('a', 'a'), ('a', 'b'), ('b', 'b')])
        # Ascending by the names, not by the order of the feeds.
        self.assertEqual(fillings(flat('ba'), (None, None)), [('a', 'a'), ('b', 'a'), ('b', 'b')])
        self.assertEqual(fillings(flat(['b', 'ab', 'a']), (None,)), [('a',), ('ab',), ('b',)])
        for tree in DEEP:
            # Each way to share four items among eight feeds is one output.
            found = fillings(tree, (None,) * 4)
            self.assertEqual(len(found), 330)
            self.assertEqual(found, sorted(whole_outputs(tree, 4)))

    def test_how_many_none(self):
        for seen in ((None,) * 4, ('a', None) * 4, (None, 'a') * 4, (None,) * 4 + ('a',) * 56, ('b',) * 56 + (None,) * 4):
            self.assertIs(type(fillings(A, seen)), list)
        for seen in ((None,) * 5, ('a', None) * 5, (None, 'a') * 5, (None,) * 5 + ('a',) * 55, (None,) * 60):
            self.assertRaises(InvalidSeen, fillings, A, seen)
            self.assertRaises(InvalidSeen, fillings, 'a', seen)

    def test_sixty_names(self):
        self.assertEqual(
            fillings(A, ('a', 'a', 'b') * 19 + ('a', None, None)),
            [('a', 'a', 'b') * 19 + row for row in (('a', 'a', 'a'), ('a', 'a', 'b'), ('a', 'b', 'b'))])
        self.assertEqual(fillings(A, (None, None, 'b') + ('a', 'a', 'b') * 19), [('a', 'a', 'b') * 20])
        for seen in (('a',) * 60 + (None,), (None,) + ('a',) * 60, ('a',) * 57 + (None,) * 4):
            self.assertRaises(InvalidSeen, fillings, A, seen)

    def test_all_lengths_and_all_ways_to_fill_in(self):
        for tree in SMALL:
            names = names_of(tree)
            for many in range(6):
                expected = sorted(whole_outputs(tree, many))
                # Each name can be read or not.
                for seen in itertools.product([*names, None], repeat=many):
                    if seen.count(None) > 4:
                        continue
                    by_lengths = [row for row in expected if agree(row, seen)]
                    self.assertEqual(fillings(tree, seen), by_lengths, (tree, seen))
                    if many < 5:
                        by_names = [row for row in filled(names, seen) if lengths_for(tree, row) is not None]
                        self.assertEqual(by_lengths, sorted(by_names))

    def test_names_that_were_lost(self):
        for number, (tree, row) in enumerate(some_rows()):
            lost = sorted({number % 5, number * 7 % 60, number * 11 % 60, len(row) - 1})
            seen = tuple(None if place in lost else name for place, name in enumerate(row))
            found = fillings(tree, seen)
            self.assertIn(row, found)
            self.assertEqual(found, sorted(set(found)))
            for filling in found:
                self.assertTrue(agree(filling, seen))
                self.assertIsNotNone(lengths_for(tree, filling))
            # With three feeds at most, also every other way is tried.
            if len(names_of(tree)) <= 3:
                others = [other for other in filled(names_of(tree), seen) if lengths_for(tree, other) is not None]
                self.assertEqual(found, sorted(others))

    def test_kinds(self):
        for row in fillings(B, ('a', None, 'b')):
            self.assertEqual([type(row)] + [type(name) for name in row], [tuple, str, str, str])

    def test_new_list(self):
        check_new_list(self, fillings, B, ('a', None, 'b'))
        check_new_list(self, fillings, B, ())
        self.assertIsNot(fillings(A, ('b', 'a')), fillings(A, ('b', 'a')))

    def test_wrong_arguments(self):
        check_wrong(self, fillings, (B, ('a', None)), [(InvalidTree, NOT_TREES), (InvalidSeen, BAD_SEEN)])
        for name in ('d', 0, False, '', 'None', (), [], ('a',), (None,), [None]):
            self.assertRaises(InvalidSeen, fillings, B, ('a', None, name))
            self.assertRaises(InvalidSeen, fillings, B, (name, None, None, None, None))


def agree(row, seen):
    return all(name in (own, None) for own, name in zip(row, seen, strict=True))


def filled(names, seen):
    """All ways to put names in place of None."""
    return itertools.product(*[names if name is None else [name] for name in seen])


class WeightsForTest(unittest.TestCase):

    def by_all_weights(self, names, seen):
        found = []
        lengths = tuple(seen.count(name) for name in names)
        for weights in itertools.product(range(1, 10), repeat=len(names)):
            if names_by_rounds(tuple(zip(weights, names)), lengths) == seen:
                found.append(weights)
        return found

    def test_example(self):
        self.assertEqual(weights_for(('a', 'b'), ('a', 'a', 'b', 'a', 'b', 'b')), [(2, 1)])

    def test_no_names_seen(self):
        for names in (('a', 'b'), ('z', 'y', 'abcdef')):
            self.assertEqual(weights_for(names, ()), list(itertools.product(range(1, 10), repeat=len(names))))

    def test_no_weights(self):
        self.assertEqual(weights_for(('a', 'b'), ('b', 'a')), [])
        self.assertEqual(weights_for(('a', 'b'), ('a', 'b', 'a', 'a', 'b')), [])
        self.assertEqual(weights_for(('a', 'b', 'c'), ('a', 'c', 'b')), [])
        # A weight of 10 is not considered.
        self.assertEqual(weights_for(('a', 'b'), ('a',) * 10 + ('b', 'a')), [])
        self.assertEqual(weights_for(('a', 'b'), ('a',) * 9 + ('b', 'a')), [(9, weight) for weight in range(1, 10)])

    def test_one_feed_has_items(self):
        for name in ('a', 'b', 'c'):
            self.assertEqual(len(weights_for(('a', 'b', 'c'), (name,) * 60)), 729)

    def test_the_order_of_the_names(self):
        seen = ('a', 'a', 'b', 'a', 'b', 'b')
        self.assertEqual(weights_for(('b', 'a'), seen), [])
        self.assertEqual(weights_for(('b', 'a'), ('b', 'b', 'a', 'b', 'a', 'a')), [(2, 1)])
        self.assertEqual(weights_for(('c', 'a', 'b'), seen), [(weight, 2, 1) for weight in range(1, 10)])
        self.assertEqual(weights_for(('a', 'c', 'b'), seen), [(2, weight, 1) for weight in range(1, 10)])

    def test_two_names(self):
        for many in range(9):
            for seen in itertools.product('ab', repeat=many):
                self.assertEqual(weights_for(('a', 'b'), seen), self.by_all_weights(('a', 'b'), seen), seen)

    def test_three_names(self):
        names = ('a', 'b', 'c')
        for seen in itertools.product(names, repeat=4):
            self.assertEqual(weights_for(names, seen), self.by_all_weights(names, seen), seen)

    def test_long_rows(self):
        for weights, lengths in (
                ((9, 9), (30, 30)), ((1, 9), (10, 50)), ((4, 7), (12, 21)), ((1, 1), (60, 0)), ((3, 2), (1, 59)),
                ((1, 1, 1), (20, 20, 20)), ((9, 8, 7), (20, 20, 20)), ((2, 5, 3), (10, 0, 50)), ((9, 1, 9), (9, 9, 9))):
            names = ('a', 'bb', 'c')[:len(weights)]
            seen = names_by_rounds(tuple(zip(weights, names)), lengths)
            found = weights_for(names, seen)
            self.assertEqual(found, self.by_all_weights(names, seen))
            self.assertIn(weights, found)

    def test_every_pair_of_weights_is_found(self):
        for weights in itertools.product(range(1, 10), repeat=2):
            seen = names_by_rounds(tuple(zip(weights, 'ab')), (20, 20))
            self.assertEqual(weights_for(('a', 'b'), seen), [weights])
        for weights in list(itertools.product(range(1, 10), repeat=3))[::40]:
            seen = names_by_rounds(tuple(zip(weights, 'abc')), (20, 20, 20))
            self.assertEqual(weights_for(('a', 'b', 'c'), seen), [weights])

    def test_kinds(self):
        for row in weights_for(('a', 'b', 'c'), ('a', 'b', 'c', 'a')):
            self.assertEqual([type(row)] + [type(weight) for weight in row], [tuple, int, int, int])

    def test_new_list(self):
        check_new_list(self, weights_for, ('a', 'b'), ('a', 'a', 'b', 'a', 'b', 'b'))
        check_new_list(self, weights_for, ('a', 'b'), ())
        self.assertIsNot(weights_for(('a', 'b'), ('b', 'a')), weights_for(('a', 'b'), ('b', 'a')))

    def test_how_many_names_seen(self):
        self.assertEqual(len(weights_for(('a', 'b'), ('b',) * 60)), 81)
        for many in (61, 62, 80):
            self.assertRaises(InvalidSeen, weights_for, ('a', 'b'), ('b',) * many)

    def test_wrong_arguments(self):
        wrong = [(InvalidName, BAD_PAIRS), (InvalidSeen, BAD_SEEN + WITH_NONE)]
        check_wrong(self, weights_for, (('a', 'b', 'c'), ('a', 'c')), wrong)
        # Only these names can be seen, although feeds can have others.
        for seen in (('c',), ('a', 'c'), ('a', 'b', 'ab'), ('aa',)):
            self.assertRaises(InvalidSeen, weights_for, ('a', 'b'), seen)

    def test_names_that_feeds_can_have(self):
        for names in (('abcdef', 'abcde'), ('z', 'a'), ('a', 'aa', 'aaa')):
            self.assertEqual(len(weights_for(names, names[:1])), 9 ** len(names))


class ArgumentsTest(unittest.TestCase):

    def test_arguments_stay_as_they_are(self):
        value = [(1, 'a'), [1, ['b']]]
        other = ['a', ['b'], None]
        before = copy.deepcopy([value, other])
        for function in (lengths_for, ended, fillings):
            self.assertRaises(InvalidTree, function, value, other)
            self.assertRaises(InvalidSeen, function, B, other)
            self.assertRaises(InvalidSeen, function, B, (other, other))
        self.assertRaises(InvalidName, weights_for, other, other)
        self.assertRaises(InvalidName, weights_for, (other, other), other)
        self.assertRaises(InvalidSeen, weights_for, ('a', 'b'), other)
        self.assertEqual([value, other], before)

    def test_a_call_changes_no_later_result(self):
        calls = [(lengths_for, B, ('a', 'c')), (ended, B, ('a', 'c', 'b', 'c', 'b')), (fillings, B, ('a', None, 'b')),
                 (weights_for, ('a', 'b'), ('a', 'b', 'b'))]
        before = [function(*arguments) for function, *arguments in calls]
        for function, first, second in calls:
            self.assertIs(error_of(function, (first, ['a'])), InvalidSeen)
        self.assertEqual([function(*arguments) for function, *arguments in calls], before)

    def test_a_whole_output_is_the_beginning_of_its_own(self):
        for tree, row in some_rows():
            for many in range(0, len(row) + 1, 6):
                lengths = lengths_for(tree, row[:many])
                self.assertEqual(tuple(name for name, index in by_rounds(tree, lengths)), row[:many])
