import copy
import inspect
import unittest

from mixtrees import trees
from mixtrees.errors import InvalidName, InvalidTree
from mixtrees.trees import fair, feeds_of, is_tree, plain, restricted, together
from tests.helper import A, ALMOST_TREES, B, F, G, NOT_TREES, ODD_VALUES, flat, names_of, nested, some_trees


class InterfaceTest(unittest.TestCase):

    def test_arguments_and_home(self):
        signatures = {
            'is_tree': '(value)', 'feeds_of': '(tree)', 'together': '(*parts)', 'fair': '(*names)',
            'plain': '(tree)', 'restricted': '(tree, names)',
        }
        for name, signature in signatures.items():
            with self.subTest(name):
                function = getattr(trees, name)
                self.assertEqual(str(inspect.signature(function)), signature)
                self.assertEqual(function.__module__, 'mixtrees.trees')


class IsTreeTest(unittest.TestCase):

    def assert_trees(self, *values):
        for value in values:
            with self.subTest(value=value):
                self.assertIs(is_tree(value), True)

    def assert_no_trees(self, *values):
        # Some of the values are too large to be shown.
        for number, value in enumerate(values):
            with self.subTest(number=number):
                self.assertIs(is_tree(value), False)

    def test_example(self):
        self.assertEqual([is_tree(B), is_tree('a'), is_tree(((1, 'a'), (1, 'a')))], [True, True, False])

    def test_lengths_of_names(self):
        self.assert_trees('a', 'z', 'ab', 'abcdef', 'zzzzzz', ((1, 'abcdef'), (1, 'f')))
        self.assert_no_trees('', 'abcdefg', 'a' * 100, ((1, ''),), ((1, 'a'), (1, 'abcdefg')))

    def test_characters_of_names(self):
        for code in range(32, 127):
            fine = chr(code) in 'abcdefghijklmnopqrstuvwxyz'
            for name in (chr(code), chr(code) + 'bc', 'b' + chr(code) + 'c', 'bc' + chr(code)):
                with self.subTest(name):
                    self.assertIs(is_tree(name), fine)
                    self.assertIs(is_tree(((1, name),)), fine)
        self.assert_no_trees('a\n', '\na', '\xe9', '\xb5', '\u0430')

    def test_number_of_parts(self):
        for many in range(1, 6):
            self.assert_trees(flat('abcde'[:many]))
            self.assert_trees(((1, flat('abcde'[:many])), (1, 'x')))
        self.assert_no_trees((), flat('abcdef'), flat('abcdefgh'))
        self.assert_no_trees(((1, ()),), ((1, 'x'), (1, ())), ((1, flat('abcdef')), (1, 'x')))

    def test_weights(self):
        for weight in range(1, 10):
            self.assert_trees(((weight, 'a'),), ((1, 'a'), (weight, 'b')), ((weight, ((weight, 'a'),)),))
        for weight in (0, 10, -1, 11, True, False, None, '1', 'a', (), (1,), [1], 10 ** 39, -10 ** 39):
            self.assert_no_trees(((weight, 'a'),), ((1, 'a'), (weight, 'b')), ((1, ((weight, 'a'),)), (1, 'b')))

    def test_number_of_feeds(self):
        self.assert_trees(((1, flat('abcd')), (1, flat('efgh'))), ((1, flat('abcde')), (2, flat('fgh'))))
        self.assert_trees(((1, 'a'), (1, 'b'), (1, 'c'), (1, 'd'), (1, flat('efgh'))))
        self.assert_no_trees(((1, flat('abcd')), (1, flat('efghi'))), ((1, flat('abcde')), (1, flat('fghij'))))
        self.assert_no_trees(((1, 'a'), (1, 'b'), (1, 'c'), (1, 'd'), (1, flat('efghi'))))

    def test_mixers_in_mixers(self):
        for around in range(5):
            self.assert_trees(nested(around, 'a'))
        self.assert_trees(nested(3, flat('ab')), ((1, 'x'), (1, nested(2, flat('abc')))))
        self.assert_no_trees(nested(5, 'a'), nested(6, 'a'), nested(4, flat('ab')))
        self.assert_no_trees(((1, 'x'), (1, nested(3, flat('abc')))), ((1, nested(4, 'a')), (1, 'x')))

    def test_a_name_twice(self):
        self.assert_no_trees(
            ((1, 'a'), (2, 'b'), (3, 'a')),
            ((1, flat('ab')), (1, flat('cb'))),
            ((1, ((1, flat('ab')), (1, 'c'))), (1, 'a')),
            ((1, 'b'), (1, nested(3, 'b'))),
        )
        self.assert_trees(((1, 'a'), (1, 'aa')), ((1, flat(['ab', 'ba'])), (1, flat('ab'))))

    def test_lists_are_not_tuples(self):
        self.assert_no_trees(
            ['a'], [(1, 'a')], [(1, 'a'), (1, 'b')], ([1, 'a'],), ((1, 'a'), [1, 'b']),
            ((1, ['a']),), ((1, [(1, 'a')]),), ((1, ([1, 'a'], (1, 'b'))),),
        )

    def test_tuples_that_are_no_pairs(self):
        self.assert_no_trees(
            (1, 'a'), ('a', 'b'), ('ab', 'cd'), ((1,),), ((),), ((1, 'a', 'b'),), ((1, 'a', 2, 'b'),),
            (('a', 1),), (('a',),), ((1, 'a'), 'b'), ((1, 'a'), None), (((1, 'a'),),), ((1, 2),), ((1, None),),
            ((1, 'a'), (1, 'b', 1)), ((1, ((1,), (1, 'b'))),), ((1, True),),
        )

    def test_any_value(self):
        self.assert_no_trees(*NOT_TREES)
        for value in ODD_VALUES:
            self.assert_no_trees(((1, 'a'), (1, value)), ((value, 'a'),), (value,), (value, value), [value])

    def test_many_trees(self):
        self.assert_trees(A, B, F, G, *some_trees())


class InvalidTreeTest(unittest.TestCase):

    def test_values_that_are_no_trees(self):
        for number, value in enumerate(NOT_TREES):
            with self.subTest(number=number):
                self.assertRaises(InvalidTree, feeds_of, value)
                self.assertRaises(InvalidTree, plain, value)

    def test_restricted_whatever_the_names_are(self):
        for value in NOT_TREES:
            for names in (('a',), ('a', 'b'), (), ('zz',), None, 'a', 5, ['a'], ('a', 'a')):
                self.assertRaises(InvalidTree, restricted, value, names)

    def test_arguments_stay_as_they_are(self):
        value = [(1, 'a'), [1, ['b']]]
        before = copy.deepcopy(value)
        self.assertFalse(is_tree(value))
        for function in (feeds_of, plain, together, fair):
            self.assertRaises(InvalidTree, function, value)
        self.assertRaises(InvalidName, restricted, B, value)
        self.assertEqual(value, before)


class FeedsOfTest(unittest.TestCase):

    def test_example(self):
        self.assertEqual(feeds_of(B), ['a', 'b', 'c'])

    def test_from_left_to_right(self):
        self.assertEqual(feeds_of('abc'), ['abc'])
        self.assertEqual(feeds_of(((9, 'z'),)), ['z'])
        self.assertEqual(feeds_of(((1, 'z'), (2, 'a'), (1, 'm'))), ['z', 'a', 'm'])
        self.assertEqual(feeds_of(((1, 'q'), (2, ((1, 'z'), (1, flat('ca')))), (3, 'b'))), ['q', 'z', 'c', 'a', 'b'])
        self.assertEqual(feeds_of(nested(4, 'a')), ['a'])
        self.assertEqual(feeds_of(((1, flat('hgfe')), (1, flat('dcba')))), list('hgfedcba'))

    def test_many_trees(self):
        for tree in some_trees():
            self.assertEqual(feeds_of(tree), names_of(tree))

    def test_new_list(self):
        names = feeds_of(B)
        names.append('d')
        names[0] = 'x'
        self.assertEqual(feeds_of(B), ['a', 'b', 'c'])
        self.assertIsNot(feeds_of(B), feeds_of(B))
        self.assertIs(type(feeds_of('a')), list)


class TogetherTest(unittest.TestCase):

    def test_example(self):
        self.assertEqual(
            [together((2, 'a'), (1, 'b')), fair('a', 'b')],
            [((2, 'a'), (1, 'b')), ((1, 'a'), (1, 'b'))])

    def test_parts_in_order(self):
        self.assertEqual(together((3, 'z')), ((3, 'z'),))
        self.assertEqual(together((9, 'z'), (1, 'a'), (4, B[0][1][1:])), ((9, 'z'), (1, 'a'), (4, ((1, 'b'),))))
        self.assertEqual(together((2, B), (5, 'd')), ((2, B), (5, 'd')))
        self.assertEqual(together(*flat('edcba', 7)), flat('edcba', 7))

    def test_no_argument(self):
        self.assertRaises(InvalidTree, together)

    def test_no_pairs(self):
        for value in ODD_VALUES + ['a', 'ab', (1,), (1, 'a', 1), [1, 'a'], ('a', 1), ((1, 'a'), (1, 'b')), B]:
            self.assertRaises(InvalidTree, together, value)
            self.assertRaises(InvalidTree, together, (1, 'x'), value)
            self.assertRaises(InvalidTree, together, value, (1, 'x'))

    def test_parts_that_make_no_tree(self):
        for parts in (
                flat('abcdef'), flat('aba'), ((0, 'a'),), ((10, 'a'),), ((True, 'a'), (1, 'b')), ((1, 'A'),),
                ((1, B), (1, 'a')), ((1, flat('abcd')), (1, flat('efghi'))), ((1, nested(4, 'a')),),
                ((1, [(1, 'a')]),), ((1, ()),)):
            with self.subTest(parts=parts):
                self.assertRaises(InvalidTree, together, *parts)
        for value in NOT_TREES:
            self.assertRaises(InvalidTree, together, (1, value))

    def test_deepest(self):
        self.assertEqual(together((1, nested(3, 'a'))), nested(4, 'a'))


class FairTest(unittest.TestCase):

    def test_names_in_order(self):
        self.assertEqual(fair('z'), ((1, 'z'),))
        self.assertEqual(fair('c', 'a', 'bb'), ((1, 'c'), (1, 'a'), (1, 'bb')))
        self.assertEqual(fair(*'edcba'), flat('edcba'))

    def test_no_argument(self):
        self.assertRaises(InvalidTree, fair)

    def test_no_strings(self):
        for value in [value for value in NOT_TREES if not isinstance(value, str)] + [A, B, ((1, 'b'),), ('b',), ['b']]:
            self.assertRaises(InvalidTree, fair, value)
            self.assertRaises(InvalidTree, fair, 'x', value)
            self.assertRaises(InvalidTree, fair, value, 'x')

    def test_names_that_make_no_tree(self):
        for names in (('',), ('abcdefg',), ('A',), ('a', 'b '), ('a', 'a'), ('a', 'b', 'a'), tuple('abcdef'), ('a1',)):
            with self.subTest(names=names):
                self.assertRaises(InvalidTree, fair, *names)


class PlainTest(unittest.TestCase):

    def test_example(self):
        self.assertEqual(plain(((3, ((2, 'a'),)), (1, 'b'))), ((3, 'a'), (1, 'b')))

    def test_nothing_to_replace(self):
        for tree in ('a', A, B, F, G, ((1, flat('abcd', 9)), (3, flat('efgh', 2)))):
            self.assertEqual(plain(tree), tree)

    def test_at_the_top(self):
        self.assertEqual(plain(((7, 'a'),)), 'a')
        self.assertEqual(plain(((7, B),)), B)
        self.assertEqual(plain(((7, ((4, A),)),)), A)

    def test_within_each_other(self):
        for around in range(1, 5):
            self.assertEqual(plain(nested(around, 'abc')), 'abc')
        self.assertEqual(plain(((2, ((3, ((4, ((5, 'a'),)),)),)),)), 'a')
        self.assertEqual(plain(((1, 'x'), (2, ((3, ((4, 'a'),)),)))), ((1, 'x'), (2, 'a')))

    def test_around_and_inside_of_several_parts(self):
        self.assertEqual(
            plain(((2, ((3, ((4, ((5, 'a'),)), (6, 'b'))),)), (7, 'c'))),
            ((2, ((4, 'a'), (6, 'b'))), (7, 'c')))
        self.assertEqual(
            plain(((9, ((2, ((3, 'a'), (4, ((5, 'b'),)))), (6, ((7, 'c'),)))),)),
            ((2, ((3, 'a'), (4, 'b'))), (6, 'c')))
        self.assertEqual(plain(((2, ((8, flat('ab', 3)),)), (5, ((6, 'c'),)))), ((2, flat('ab', 3)), (5, 'c')))

    def test_many_trees(self):
        for tree in some_trees():
            result = plain(tree)
            self.assertIs(is_tree(result), True)
            self.assertEqual(feeds_of(result), feeds_of(tree))
            self.assertEqual(plain(result), result)
            self.assertNotIn(1, part_counts(result))


def part_counts(tree):
    if isinstance(tree, str):
        return []
    return [len(tree)] + [count for weight, part in tree for count in part_counts(part)]


class RestrictedTest(unittest.TestCase):

    deep = ((2, ((3, 'a'), (4, ((5, 'b'), (6, 'c'))))), (7, ((8, 'd'),)), (9, 'e'))

    def test_example(self):
        self.assertEqual(restricted(B, ('a', 'c')), ((1, 'a'), (1, 'c')))

    def test_any_order(self):
        self.assertEqual(restricted(B, ('c', 'a')), ((1, 'a'), (1, 'c')))
        self.assertEqual(restricted(self.deep, ('e', 'c', 'a')), restricted(self.deep, ('a', 'c', 'e')))
        self.assertEqual(restricted(self.deep, ('e', 'c', 'a')), ((2, ((3, 'a'), (4, 'c'))), (9, 'e')))

    def test_one_name(self):
        for name in 'abcde':
            self.assertEqual(restricted(self.deep, (name,)), name)
        self.assertEqual(restricted('abc', ('abc',)), 'abc')
        self.assertEqual(restricted(nested(4, 'a'), ('a',)), 'a')

    def test_all_names(self):
        self.assertEqual(restricted(B, ('c', 'b', 'a')), B)
        plain_deep = ((2, ((3, 'a'), (4, ((5, 'b'), (6, 'c'))))), (7, 'd'), (9, 'e'))
        self.assertEqual(restricted(self.deep, tuple('abcde')), plain_deep)
        self.assertEqual(restricted(self.deep, tuple('edcba')), plain_deep)

    def test_mixers_that_lose_all_parts(self):
        self.assertEqual(restricted(self.deep, ('a', 'd', 'e')), ((2, 'a'), (7, 'd'), (9, 'e')))
        self.assertEqual(restricted(self.deep, ('d', 'e')), ((7, 'd'), (9, 'e')))
        self.assertEqual(restricted(self.deep, ('a', 'b', 'c')), ((3, 'a'), (4, ((5, 'b'), (6, 'c')))))

    def test_mixers_that_lose_all_parts_but_one(self):
        self.assertEqual(restricted(self.deep, ('b', 'c')), ((5, 'b'), (6, 'c')))
        self.assertEqual(restricted(self.deep, ('b', 'c', 'e')), ((2, ((5, 'b'), (6, 'c'))), (9, 'e')))
        self.assertEqual(restricted(self.deep, ('b', 'e')), ((2, 'b'), (9, 'e')))
        self.assertEqual(restricted(self.deep, ('a', 'b')), ((3, 'a'), (4, 'b')))

    def test_names_that_begin_alike(self):
        tree = ((1, 'a'), (2, 'ab'), (3, 'b'))
        self.assertEqual(restricted(tree, ('ab',)), 'ab')
        self.assertEqual(restricted(tree, ('b', 'a')), ((1, 'a'), (3, 'b')))

    def test_invalid_names(self):
        for names in ('a', 'abc', '', ['a'], ['a', 'b'], (), [], None, 0, 1, True, {'a': 1}):
            with self.subTest(names=names):
                self.assertRaises(InvalidName, restricted, B, names)
        for names in (
                ('a', 'a'), ('a', 'b', 'a'), ('a', 'b', 'c', 'c'), ('d',), ('a', 'd'), ('d', 'a'), ('',), ('ab',),
                ('A',), (None,), ('a', None), (1,), (('a',),), (['a'],), ('a', ['b']), ('a', ('b',)), ('a',) * 80):
            with self.subTest(names=names):
                self.assertRaises(InvalidName, restricted, B, names)

    def test_any_names(self):
        for value in NOT_TREES:
            if value in (('a',), ('a', 'b')):
                continue
            self.assertRaises(InvalidName, restricted, B, value)
            self.assertRaises(InvalidName, restricted, B, (value,))
            self.assertRaises(InvalidName, restricted, B, ('a', value))
            self.assertRaises(InvalidName, restricted, B, (value, 'a'))

    def test_no_error_of_the_tree_for_trees(self):
        for value in ALMOST_TREES:
            self.assertRaises(InvalidName, restricted, 'a', value)
