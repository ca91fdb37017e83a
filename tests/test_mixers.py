import copy
import inspect
import itertools
import random
import unittest

from mixtrees import mixers
from mixtrees.errors import InvalidNumber, InvalidTree, NothingToUndo, TooMany, UnknownFeed
from mixtrees.mixers import Mixer
from mixtrees.mixing import mixed
from mixtrees.trees import fair
from tests.helper import (
    A, B, BAD_NAMES, BAD_NUMBERS, DEEP, F, G, NOT_TREES, ODD_VALUES, ONE_FEED, SPECIAL, by_rounds, check_wrong,
    error_of, flat, names_of, nested, some_cases, some_trees)

# Values of many that are no integers of at least 1.
BAD_MANY = [value for value in BAD_NUMBERS if value != 10 ** 40 - 1 and value != 10 ** 39] + [0, -1, True, False, None]


def turns(tree, stock):
    """The items of a tree one after another; the stock is a dict with the items that each feed has left."""
    if isinstance(tree, str):
        for index in itertools.count():
            stock[tree] -= 1
            yield tree, index
    parts = [(weight, names_of(part), turns(part, stock)) for weight, part in tree]
    while True:
        for weight, names, items in parts:
            for number in range(weight):
                # The rows behind the yield run only when the next item is asked for.
                if any(stock[name] for name in names):
                    yield next(items)


class Model:
    """Another way to mix step by step: to undo a call, all calls before it are made again."""

    def __init__(self, tree):
        self.tree = tree
        self.calls = []
        self.start()

    def start(self):
        self.stock = {name: 0 for name in names_of(self.tree)}
        self.items = turns(self.tree, self.stock)
        self.output = []

    def call(self, call):
        if call is None:
            self.output.append(next(self.items))
            return self.output[-1]
        name, many = call
        self.stock[name] += many
        return self.stock[name]

    def add(self, name, many):
        self.calls.append((name, many))
        return self.call((name, many))

    def next(self):
        if not any(self.stock.values()):
            return None
        self.calls.append(None)
        return self.call(None)

    def undo(self):
        self.calls.pop()
        self.start()
        for call in self.calls:
            self.call(call)


def filled(tree, lengths):
    """A mixer whose feeds have got all their items, and none has been taken."""
    mixer = Mixer(tree)
    for name, length in zip(names_of(tree), lengths):
        if length > 0:
            mixer.add(name, length)
    return mixer


def all_taken(mixer):
    """The items that are left, which are all taken."""
    items = []
    while (item := mixer.next()) is not None:
        items.append(item)
    return items


def state(mixer):
    return mixer.tree, mixer.left, mixer.taken(), len(mixer)


class InterfaceTest(unittest.TestCase):

    def test_arguments_and_home(self):
        self.assertEqual(Mixer.__module__, 'mixtrees.mixers')
        self.assertIs(mixers.Mixer, Mixer)
        signatures = {
            '__init__': '(self, tree)', 'add': '(self, name, many=1)', 'next': '(self)', 'undo': '(self)',
            'taken': '(self)', '__len__': '(self)', '__eq__': '(self, other)',
        }
        for name, signature in signatures.items():
            self.assertEqual(str(inspect.signature(vars(Mixer)[name])), signature)
        self.assertEqual(str(inspect.signature(Mixer.fair)), '(*names)')

    def test_in_the_class_itself(self):
        body = vars(Mixer)
        self.assertIsInstance(body['fair'], classmethod)
        self.assertIsInstance(body['left'], property)
        self.assertIsInstance(body['tree'], property)
        self.assertEqual(Mixer.__bases__, (object,))

    def test_limit(self):
        self.assertEqual([Mixer.LIMIT, type(Mixer.LIMIT), Mixer(A).LIMIT], [60, int, 60])


class ExampleTest(unittest.TestCase):

    def test_first(self):
        m = Mixer(A)
        self.assertEqual(m.add('b'), 1)
        self.assertEqual(m.add('a', many=2), 2)
        self.assertEqual(
            [m.next(), m.next(), m.next(), m.next(), m.left], [('a', 0), ('a', 1), ('b', 0), None, 0])

    def test_second(self):
        m = Mixer.fair('a', 'b')
        self.assertEqual([m.tree, m.left, Mixer.LIMIT], [((1, 'a'), (1, 'b')), 0, 60])

    def test_third(self):
        m = Mixer(A)
        self.assertRaises(UnknownFeed, m.add, 'c')


class CreateTest(unittest.TestCase):

    def test_without_items(self):
        for tree in SPECIAL:
            mixer = Mixer(tree)
            self.assertEqual(state(mixer), (tree, 0, [], 0))
            self.assertIsNone(mixer.next())
            self.assertRaises(NothingToUndo, mixer.undo)

    def test_no_tree(self):
        check_wrong(self, Mixer, (B,), [(InvalidTree, NOT_TREES)])

    def test_fair(self):
        for names in (('a',), ('b', 'a'), tuple('edcba'), ('abcdef', 'z')):
            mixer = Mixer.fair(*names)
            self.assertIs(type(mixer), Mixer)
            self.assertEqual(mixer.tree, fair(*names))
            self.assertEqual(state(mixer), (flat(names), 0, [], 0))
            self.assertEqual(mixer, Mixer(flat(names)))

    def test_fair_with_wrong_names(self):
        self.assertRaises(InvalidTree, Mixer.fair)
        for names in (('',), ('abcdefg',), ('A',), ('a', 'b '), ('a', 'a'), ('a', 'b', 'a'), tuple('abcdef'), ('a1',)):
            self.assertRaises(InvalidTree, Mixer.fair, *names)
        for value in [value for value in NOT_TREES if not isinstance(value, str)] + [A, ((1, 'b'),), ('b',), ['b']]:
            self.assertRaises(InvalidTree, Mixer.fair, value)
            self.assertRaises(InvalidTree, Mixer.fair, 'x', value)
            self.assertRaises(InvalidTree, Mixer.fair, value, 'x')

    def test_two_mixers_do_not_disturb_each_other(self):
        one, other = Mixer(A), Mixer(A)
        one.add('a', 3)
        self.assertEqual([one.left, other.left, other.next()], [3, 0, None])
        one.next()
        self.assertEqual([len(one), len(other)], [1, 0])
        self.assertRaises(NothingToUndo, other.undo)


class AddTest(unittest.TestCase):

    def test_how_many_are_left(self):
        mixer = Mixer(B)
        self.assertEqual([mixer.add('a'), mixer.add('a'), mixer.add('b', 5), mixer.add('a', many=3)], [1, 2, 5, 5])
        self.assertEqual([mixer.next(), mixer.next(), mixer.next()], [('a', 0), ('b', 0), ('a', 1)])
        # Only the items of this feed that have not been taken count.
        self.assertEqual([mixer.add('a'), mixer.add('b', 2), mixer.add('c', 4)], [4, 6, 4])
        self.assertEqual(mixer.left, 14)

    def test_kind(self):
        mixer = Mixer(B)
        self.assertEqual([type(mixer.add('a')), type(mixer.add('a', 2))], [int, int])

    def test_up_to_the_limit(self):
        for tree in ('a', nested(4, 'a'), A, B):
            for amounts in ([60], [59, 1], [1] * 60, [30, 29, 1]):
                mixer = Mixer(tree)
                for number, many in enumerate(amounts):
                    self.assertEqual(mixer.add('a', many), sum(amounts[:number + 1]))
                before = state(mixer)
                for many in (1, 2, 60, 61, 10 ** 39, 10 ** 40 - 1):
                    self.assertRaises(TooMany, mixer.add, 'a', many)
                self.assertRaises(TooMany, mixer.add, 'a')
                self.assertEqual(state(mixer), before)

    def test_more_than_the_limit_at_once(self):
        for many in (61, 62, 480, 10 ** 39, 10 ** 40 - 1):
            mixer = Mixer(A)
            self.assertRaises(TooMany, mixer.add, 'b', many)
            self.assertRaises(TooMany, mixer.add, 'b', many=many)
            self.assertEqual(state(mixer), (A, 0, [], 0))
            self.assertRaises(NothingToUndo, mixer.undo)
        mixer = Mixer(A)
        mixer.add('a', 2)
        self.assertRaises(TooMany, mixer.add, 'a', 59)
        self.assertEqual(mixer.add('a', 58), 60)

    def test_the_limit_counts_what_has_been_taken(self):
        mixer = filled(A, (60, 3))
        for number in range(20):
            mixer.next()
        self.assertRaises(TooMany, mixer.add, 'a')
        all_taken(mixer)
        self.assertEqual(mixer.left, 0)
        self.assertRaises(TooMany, mixer.add, 'a')
        self.assertEqual(mixer.add('b', 57), 57)
        self.assertRaises(TooMany, mixer.add, 'b')

    def test_the_limit_is_for_each_feed(self):
        mixer = filled(DEEP[0], (60,) * 8)
        self.assertEqual(mixer.left, 480)
        for name in names_of(DEEP[0]):
            self.assertRaises(TooMany, mixer.add, name)

    def test_undo_makes_room_again(self):
        mixer = filled(A, (60, 0))
        mixer.undo()
        self.assertEqual(mixer.add('a', 60), 60)
        mixer.next()
        mixer.undo()
        self.assertRaises(TooMany, mixer.add, 'a')

    def test_wrong_arguments(self):
        mixer = Mixer(B)
        wrong = [(UnknownFeed, BAD_NAMES), (InvalidNumber, BAD_MANY)]
        check_wrong(self, mixer.add, ('a', 1), wrong)
        self.assertEqual(state(mixer), (B, 1, [], 0))
        mixer.undo()
        self.assertEqual(mixer, Mixer(B))
        self.assertRaises(NothingToUndo, mixer.undo)

    def test_wrong_arguments_by_name(self):
        mixer = Mixer(B)
        for value in BAD_MANY:
            with self.assertRaises(InvalidNumber):
                mixer.add('a', many=value)
            with self.assertRaises(UnknownFeed):
                mixer.add('d', many=value)
        for value in BAD_NAMES:
            self.assertRaises(UnknownFeed, mixer.add, value)
        self.assertEqual(mixer, Mixer(B))

    def test_the_first_error_of_several(self):
        mixer = filled(B, (60, 60, 60))
        for name in BAD_NAMES:
            for many in (1, 61, 0, True, None):
                self.assertIs(error_of(mixer.add, (name, many)), UnknownFeed)
        for many in BAD_MANY:
            self.assertIs(error_of(mixer.add, ('a', many)), InvalidNumber)
        for many in (1, 60, 61, 10 ** 40 - 1):
            self.assertIs(error_of(mixer.add, ('a', many)), TooMany)
        self.assertEqual(mixer, filled(B, (60, 60, 60)))

    def test_names_of_one_feed(self):
        mixer = Mixer('abc')
        self.assertEqual(mixer.add('abc', 2), 2)
        for name in ('a', 'ab', 'abcd', '', 'b', ('abc',), ['abc'], 0, None):
            self.assertRaises(UnknownFeed, mixer.add, name)


class NextTest(unittest.TestCase):

    def test_all_items_added_first(self):
        for tree, lengths in some_cases():
            mixer = filled(tree, lengths)
            self.assertEqual(all_taken(mixer), mixed(tree, lengths), (tree, lengths))
            self.assertEqual(mixer.taken(), by_rounds(tree, lengths))
            self.assertEqual(state(mixer), (tree, 0, mixed(tree, lengths), sum(lengths)))

    def test_in_any_order_of_the_feeds(self):
        for tree, lengths in ((A, (5, 2)), (B, (3, 4, 5)), (G, (2, 3, 9)), (F, (0, 4, 2))):
            rows = [(name, length) for name, length in zip(names_of(tree), lengths) if length > 0]
            for order in itertools.permutations(rows):
                mixer = Mixer(tree)
                for name, length in order:
                    mixer.add(name, length)
                self.assertEqual(all_taken(mixer), mixed(tree, lengths))
        source = random.Random(3)
        for tree, lengths in some_cases(40):
            calls = [name for name, length in zip(names_of(tree), lengths) for number in range(length)]
            source.shuffle(calls)
            mixer = Mixer(tree)
            for name in calls:
                mixer.add(name)
            self.assertEqual(all_taken(mixer), mixed(tree, lengths))

    def test_no_items(self):
        for tree in SPECIAL:
            mixer = Mixer(tree)
            for number in range(3):
                self.assertIsNone(mixer.next())
                self.assertEqual(state(mixer), (tree, 0, [], 0))
            # It is still at the first part.
            for name in reversed(names_of(tree)):
                mixer.add(name)
            self.assertEqual(mixer.next(), (names_of(tree)[0], 0))

    def test_none_changes_nothing(self):
        mixer = filled(A, (1, 0))
        self.assertEqual([mixer.next(), mixer.next(), mixer.next()], [('a', 0), None, None])
        # It stays at a, amid the weight.
        mixer.add('b')
        mixer.add('a', 2)
        self.assertEqual(all_taken(mixer), [('a', 1), ('b', 0), ('a', 2)])

    def test_items_added_amid_a_weight(self):
        mixer = filled(((3, 'a'), (1, 'b')), (1, 2))
        self.assertEqual(mixer.next(), ('a', 0))
        mixer.add('a', 5)
        self.assertEqual(
            all_taken(mixer), [('a', 1), ('a', 2), ('b', 0), ('a', 3), ('a', 4), ('a', 5), ('b', 1)])

    def test_items_added_too_late(self):
        mixer = filled(((3, 'a'), (1, 'b')), (1, 2))
        self.assertEqual([mixer.next(), mixer.next()], [('a', 0), ('b', 0)])
        # The turn of a is over, and a new one begins in the next round.
        mixer.add('a', 5)
        self.assertEqual(
            all_taken(mixer), [('a', 1), ('a', 2), ('a', 3), ('b', 1), ('a', 4), ('a', 5)])

    def test_items_added_to_a_part_that_was_passed_over(self):
        mixer = filled(F, (0, 2, 2))
        self.assertEqual(mixer.next(), ('b', 0))
        mixer.add('a', 2)
        self.assertEqual(all_taken(mixer), [('c', 0), ('a', 0), ('b', 1), ('c', 1), ('a', 1)])
        mixer = filled(F, (2, 0, 2))
        self.assertEqual([mixer.next(), mixer.next()], [('a', 0), ('c', 0)])
        mixer.add('b', 2)
        self.assertEqual(all_taken(mixer), [('a', 1), ('b', 0), ('c', 1), ('b', 1)])

    def test_items_added_after_a_whole_weight(self):
        mixer = filled(A, (2, 0))
        self.assertEqual([mixer.next(), mixer.next()], [('a', 0), ('a', 1)])
        # Only now is it seen whether b has items.
        mixer.add('a', 2)
        mixer.add('b')
        self.assertEqual(all_taken(mixer), [('b', 0), ('a', 2), ('a', 3)])

    def test_back_at_the_same_part_it_counts_anew(self):
        mixer = filled(A, (3, 0))
        self.assertEqual([mixer.next(), mixer.next(), mixer.next()], [('a', 0), ('a', 1), ('a', 2)])
        mixer.add('a', 2)
        mixer.add('b')
        self.assertEqual(all_taken(mixer), [('a', 3), ('b', 0), ('a', 4)])

    def test_an_inner_mixer_stays_where_it_is(self):
        mixer = filled(B, (1, 1, 3))
        self.assertEqual([mixer.next(), mixer.next(), mixer.next()], [('a', 0), ('c', 0), ('b', 0)])
        # The inner mixer has no items and is passed over, and goes on with a.
        self.assertEqual([mixer.next(), mixer.next()], [('c', 1), ('c', 2)])
        mixer.add('b')
        mixer.add('a')
        mixer.add('c')
        self.assertEqual(all_taken(mixer), [('a', 1), ('c', 3), ('b', 1)])

    def test_an_inner_mixer_amid_its_weight(self):
        tree = ((1, ((3, 'a'), (1, 'b'))), (1, 'c'))
        mixer = filled(tree, (1, 0, 2))
        self.assertEqual([mixer.next(), mixer.next(), mixer.next()], [('a', 0), ('c', 0), ('c', 1)])
        mixer.add('b')
        mixer.add('a', 3)
        self.assertEqual(all_taken(mixer), [('a', 1), ('a', 2), ('b', 0), ('a', 3)])

    def test_one_feed(self):
        for tree in ('a', ((9, 'a'),), nested(4, 'a')):
            mixer = Mixer(tree)
            for index in range(60):
                self.assertEqual(mixer.add('a'), 1)
                self.assertEqual([mixer.next(), mixer.next()], [('a', index), None])
            self.assertRaises(TooMany, mixer.add, 'a')

    def test_kinds(self):
        mixer = filled(B, (2, 2, 2))
        for item in all_taken(mixer):
            self.assertEqual([type(item), len(item), type(item[0]), type(item[1])], [tuple, 2, str, int])


class UndoTest(unittest.TestCase):

    def test_after_add(self):
        mixer = Mixer(A)
        mixer.add('a', 2)
        mixer.add('b', 3)
        self.assertIsNone(mixer.undo())
        self.assertEqual(state(mixer), (A, 2, [], 0))
        self.assertEqual(mixer.add('b'), 1)
        mixer.undo()
        # All items of one call are taken back at once.
        mixer.undo()
        self.assertEqual(state(mixer), (A, 0, [], 0))
        self.assertRaises(NothingToUndo, mixer.undo)

    def test_after_next(self):
        mixer = filled(A, (3, 2))
        self.assertEqual([mixer.next(), mixer.next(), mixer.next()], [('a', 0), ('a', 1), ('b', 0)])
        self.assertIsNone(mixer.undo())
        self.assertEqual(state(mixer), (A, 3, [('a', 0), ('a', 1)], 2))
        self.assertEqual(mixer.next(), ('b', 0))
        mixer.undo()
        mixer.undo()
        mixer.undo()
        self.assertEqual(state(mixer), (A, 5, [], 0))
        self.assertEqual(all_taken(mixer), mixed(A, (3, 2)))

    def test_amid_a_weight(self):
        # The one item more decides whether the mixer stays.
        mixer = filled(((2, 'a'), (1, 'b')), (1, 2))
        self.assertEqual([mixer.next(), mixer.next()], [('a', 0), ('b', 0)])
        mixer.undo()
        mixer.add('a')
        self.assertEqual(mixer.next(), ('a', 1))
        mixer.undo()
        mixer.undo()
        self.assertEqual([mixer.next(), mixer.next(), mixer.next()], [('b', 0), ('b', 1), None])

    def test_back_to_the_beginning(self):
        for number, tree in enumerate(SPECIAL + some_trees(24)):
            mixer = filled(tree, (3 + number % 5,) * len(names_of(tree)))
            calls = len(names_of(tree)) + len(all_taken(mixer))
            for step in range(calls):
                self.assertIsNone(mixer.undo())
            self.assertEqual(mixer, Mixer(tree))
            for step in range(2):
                self.assertRaises(NothingToUndo, mixer.undo)
            self.assertEqual(state(mixer), (tree, 0, [], 0))
            for name in names_of(tree):
                mixer.add(name, 4)
            self.assertEqual(all_taken(mixer), mixed(tree, (4,) * len(names_of(tree))))

    def test_after_a_next_that_returned_none(self):
        mixer = Mixer(A)
        self.assertIsNone(mixer.next())
        self.assertRaises(NothingToUndo, mixer.undo)
        mixer.add('a')
        self.assertEqual([mixer.next(), mixer.next(), mixer.next()], [('a', 0), None, None])
        # The calls that returned None do not count.
        mixer.undo()
        self.assertEqual(state(mixer), (A, 1, [], 0))
        mixer.undo()
        self.assertEqual(state(mixer), (A, 0, [], 0))
        self.assertRaises(NothingToUndo, mixer.undo)

    def test_after_a_call_that_raised(self):
        mixer = filled(A, (60, 1))
        for arguments in (('a',), ('c',), ('b', 0), ('b', 60), ([],), ('b', None)):
            self.assertIsNotNone(error_of(mixer.add, arguments))
        mixer.undo()
        self.assertEqual(mixer, filled(A, (60, 0)))
        mixer.undo()
        self.assertRaises(NothingToUndo, mixer.undo)

    def test_other_calls_are_not_taken_back(self):
        mixer = filled(A, (1, 1))
        mixer.next()
        self.assertEqual([mixer.left, mixer.tree, mixer.taken(), len(mixer), mixer == mixer], [1, A, [('a', 0)], 1, True])
        mixer.undo()
        self.assertEqual(len(mixer), 0)

    def test_undo_is_not_undone(self):
        mixer = Mixer(A)
        mixer.add('a')
        mixer.add('b')
        mixer.undo()
        mixer.undo()
        self.assertRaises(NothingToUndo, mixer.undo)
        self.assertEqual(mixer.left, 0)


class PropertiesTest(unittest.TestCase):

    def test_left(self):
        mixer = filled(B, (2, 3, 4))
        for left in range(9, 0, -1):
            self.assertEqual([mixer.left, type(mixer.left)], [left, int])
            mixer.next()
        self.assertEqual([mixer.left, type(mixer.left)], [0, int])
        mixer.add('a', 5)
        self.assertEqual(mixer.left, 5)
        mixer.undo()
        mixer.undo()
        self.assertEqual(mixer.left, 1)

    def test_tree(self):
        for tree in SPECIAL:
            mixer = Mixer(tree)
            self.assertEqual(mixer.tree, tree)
            mixer.add(names_of(tree)[0])
            mixer.next()
            self.assertEqual(mixer.tree, tree)

    def test_taken_is_a_new_list(self):
        mixer = filled(A, (2, 1))
        mixer.next()
        items = mixer.taken()
        self.assertIs(type(items), list)
        self.assertIsNot(mixer.taken(), items)
        items.append('more')
        items[0] = None
        self.assertEqual(mixer.taken(), [('a', 0)])
        self.assertEqual(len(mixer), 1)
        self.assertIsNot(Mixer(A).taken(), Mixer(A).taken())

    def test_a_list_from_before_stays_as_it_was(self):
        mixer = filled(A, (2, 1))
        empty = mixer.taken()
        mixer.next()
        one = mixer.taken()
        mixer.next()
        mixer.undo()
        mixer.undo()
        self.assertEqual([empty, one, mixer.taken()], [[], [('a', 0)], []])

    def test_length(self):
        mixer = filled(B, (2, 2, 2))
        for number in range(6):
            self.assertEqual(len(mixer), number)
            mixer.next()
        self.assertEqual([len(mixer), len(mixer.taken())], [6, 6])
        mixer.next()
        self.assertEqual(len(mixer), 6)
        mixer.undo()
        self.assertEqual(len(mixer), 5)


class EqualityTest(unittest.TestCase):

    def assert_equal(self, one, other):
        self.assertIs(one == other, True)
        self.assertIs(other == one, True)
        self.assertIs(one != other, False)
        self.assertIs(other != one, False)

    def assert_other(self, one, other):
        self.assertIs(one == other, False)
        self.assertIs(other == one, False)
        self.assertIs(one != other, True)
        self.assertIs(other != one, True)

    def test_trees(self):
        for one, other in itertools.product(SPECIAL, repeat=2):
            if one == other:
                self.assert_equal(Mixer(one), Mixer(copy.deepcopy(other)))
            else:
                self.assert_other(Mixer(one), Mixer(other))
        # Equal trees, not trees that mix alike.
        self.assert_other(Mixer(A), Mixer(((1, A),)))
        self.assert_other(Mixer('a'), Mixer(((1, 'a'),)))

    def test_items_added(self):
        for one, other in itertools.product(itertools.product(range(3), repeat=2), repeat=2):
            if one == other:
                self.assert_equal(filled(A, one), filled(A, other))
            else:
                self.assert_other(filled(A, one), filled(A, other))

    def test_the_order_and_number_of_calls(self):
        one = Mixer(B)
        for name in 'abcabcab':
            one.add(name)
        other = Mixer(B)
        other.add('c', 2)
        other.add('b', 3)
        other.add('a', 3)
        self.assert_equal(one, other)
        for number in range(5):
            one.next()
            self.assert_other(one, other)
            other.next()
            self.assert_equal(one, other)
        one.add('c')
        self.assert_other(one, other)
        other.add('c')
        self.assert_equal(one, other)
        self.assertEqual(all_taken(one), all_taken(other))

    def test_items_added_before_and_after_others_are_taken(self):
        one = filled(A, (4, 2))
        one.next()
        one.next()
        other = filled(A, (1, 0))
        other.next()
        other.add('a', 3)
        other.next()
        other.add('b', 2)
        self.assert_equal(one, other)
        self.assertEqual(all_taken(one), all_taken(other))
        self.assert_equal(one, other)

    def test_the_items_taken(self):
        # Both have had the same items, and taken the same number of them.
        one = filled(A, (2, 2))
        one.next()
        other = Mixer(A)
        other.add('b', 2)
        other.next()
        other.add('a', 2)
        self.assertEqual([one.left, len(one)], [other.left, len(other)])
        self.assert_other(one, other)
        # Also if all have been taken, in another order.
        all_taken(one)
        all_taken(other)
        self.assertEqual(sorted(one.taken()), sorted(other.taken()))
        self.assert_other(one, other)

    def test_the_same_number_left(self):
        one = filled(A, (2, 0))
        one.next()
        self.assert_other(one, filled(A, (1, 0)))
        self.assert_other(filled(A, (1, 0)), filled(A, (0, 1)))

    def test_after_undo(self):
        one = filled(A, (2, 2))
        other = filled(A, (2, 2))
        one.next()
        one.undo()
        self.assert_equal(one, other)
        one.add('a')
        one.undo()
        self.assert_equal(one, other)
        # The calls that could still be taken back do not matter.
        other.undo()
        other.add('b')
        other.add('b')
        self.assert_equal(one, other)

    def test_other_objects(self):
        for mixer in (Mixer(A), filled(A, (1, 1))):
            for other in [A, 'a', mixer.tree, mixer.taken(), len(mixer), mixer.left, object(), Mixer, {}, set(), 0.5]:
                self.assert_other(mixer, other)
            for other in ODD_VALUES:
                self.assertIs(mixer == other, False)
                self.assertIs(mixer != other, True)
        self.assertNotIn(mixer, [A, None, [], ()])
        self.assertIn(mixer, [A, None, filled(A, (1, 1))])

    def test_an_object_that_looks_like_a_mixer(self):
        class Other:
            pass

        mixer = filled(A, (1, 1))
        other = Other()
        vars(other).update(vars(mixer))
        self.assert_other(mixer, other)

    def test_itself(self):
        mixer = filled(A, (1, 1))
        self.assert_equal(mixer, mixer)


class ManyCallsTest(unittest.TestCase):

    def play(self, tree, source, steps):
        """Makes many calls, and checks each of them by the model."""
        mixer, model = Mixer(tree), Model(tree)
        adding, taking = source.choice([(1, 1), (2, 3), (3, 1)])
        for step in range(steps):
            kind = source.choices(['add', 'next', 'undo'], [adding, taking, 0.4])[0]
            if kind == 'add':
                name, many = source.choice(names_of(tree)), source.choice([1, 1, 2, 5])
                if model.stock[name] + sum(own == name for own, index in model.output) + many > 60:
                    self.assertRaises(TooMany, mixer.add, name, many)
                else:
                    self.assertEqual(mixer.add(name, many), model.add(name, many))
            elif kind == 'next':
                self.assertEqual(mixer.next(), model.next(), (tree, model.calls))
            elif model.calls:
                self.assertIsNone(mixer.undo())
                model.undo()
            else:
                self.assertRaises(NothingToUndo, mixer.undo)
            left = sum(model.stock.values())
            self.assertEqual(state(mixer), (tree, left, model.output, len(model.output)), (tree, model.calls))
        return mixer, model

    def test_against_the_model(self):
        source = random.Random(5)
        for tree in SPECIAL * 2 + some_trees(80):
            self.play(tree, source, 90)

    def test_equal_mixers_go_on_alike(self):
        source = random.Random(6)
        for tree in SPECIAL + some_trees(40):
            mixer, model = self.play(tree, source, 40)
            # The same items and calls of next, without what was taken back.
            other = Mixer(tree)
            for call in model.calls:
                if call is None:
                    other.next()
                else:
                    other.add(*call)
            self.assertTrue(mixer == other)
            self.assertEqual(all_taken(mixer), all_taken(other))
            self.assertTrue(mixer == other)

    def test_all_short_plays(self):
        for tree in (((2, 'a'), (1, 'b')), ((1, ((2, 'a'), (1, 'b'))), (1, 'c'))):
            calls = [*names_of(tree), 'next', 'undo']
            for play in itertools.product(calls, repeat=6):
                mixer, model = Mixer(tree), Model(tree)
                for call in play:
                    if call == 'next':
                        self.assertEqual(mixer.next(), model.next(), (tree, play))
                    elif call != 'undo':
                        self.assertEqual(mixer.add(call), model.add(call, 1), (tree, play))
                    elif model.calls:
                        self.assertIsNone(mixer.undo())
                        model.undo()
                    else:
                        self.assertRaises(NothingToUndo, mixer.undo)
                self.assertEqual(mixer.taken(), model.output, (tree, play))

    def test_the_model_mixes_as_the_outputs(self):
        for tree, lengths in some_cases(30):
            model = Model(tree)
            for name, length in zip(names_of(tree), lengths):
                model.add(name, length)
            while model.next() is not None:
                pass
            self.assertEqual(model.output, by_rounds(tree, lengths))


class ArgumentsTest(unittest.TestCase):

    def test_arguments_stay_as_they_are(self):
        value = [(1, 'a'), [1, ['b']]]
        before = copy.deepcopy(value)
        self.assertRaises(InvalidTree, Mixer, value)
        self.assertRaises(InvalidTree, Mixer.fair, value)
        mixer = filled(A, (1, 1))
        self.assertRaises(UnknownFeed, mixer.add, value)
        self.assertRaises(InvalidNumber, mixer.add, 'a', value)
        self.assertFalse(mixer == value)
        self.assertEqual(value, before)

    def test_a_call_that_raises_changes_nothing(self):
        mixer = filled(B, (60, 1, 3))
        mixer.next()
        mixer.next()
        other = filled(B, (60, 1, 3))
        other.next()
        other.next()
        for arguments in (('a',), ('d',), (None,), ('b', 0), ('b', -1), ('b', True), ('b', 60), ([], []), ('c', 58)):
            self.assertIsNotNone(error_of(mixer.add, arguments))
            self.assertTrue(mixer == other)
        self.assertEqual(all_taken(mixer), all_taken(other))
        empty = Mixer(ONE_FEED[0])
        self.assertRaises(NothingToUndo, empty.undo)
        self.assertEqual([empty.add('a'), empty.next(), len(empty)], [1, ('a', 0), 1])
