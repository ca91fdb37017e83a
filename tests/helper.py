"""What several tests use: trees, values that are not allowed, other ways to mix, and checks of errors."""

import itertools
import random
import string

A = ((2, 'a'), (1, 'b'))
B = ((1, ((1, 'a'), (1, 'b'))), (1, 'c'))
F = ((1, 'a'), (1, 'b'), (1, 'c'))
G = ((1, ((1, 'a'), (1, 'b'))), (3, 'c'))


def nested(around, inner):
    """A value in so many mixers of one part."""
    for number in range(around):
        inner = ((1, inner),)
    return inner


def wide(depth, width, end):
    """A value whose parts are all the same object, so that it is small in memory only."""
    for number in range(depth):
        end = (end,) * width
    return end


def wide_mixer(depth, end):
    for number in range(depth):
        end = ((1, end),) * 5
    return end


def flat(names, weight=1):
    return tuple((weight, name) for name in names)


# Values that are no trees, no names, no lengths and no numbers within a limit.
ODD_VALUES = [
    None, True, False, 10 ** 40 - 1, 1 - 10 ** 40, -1,
    '', ' ', '~', 'A', 'abcdefg', 'x' * 100, '~' * 100,
    [], [[]], ['a'], [1, 'a'], [None] * 80, ['a'] * 80,
    (), ((),), (None,), ('a',), ('a', 'b'), ('aa', 'bb'), (1,), (True,) * 80,
    wide(12, 80, 'a'), wide(12, 5, 1), wide(12, 2, ()), wide(12, 1, None), wide_mixer(6, 'a'),
    [wide(11, 80, 'a')],
]

# Values that look like trees, but are none.
ALMOST_TREES = [
    (1, 'a'),
    ((1, 'a'), (1, 'a')),
    ((0, 'a'), (1, 'b')),
    ((1, 'a'), (10, 'b')),
    ((True, 'a'), (1, 'b')),
    [(1, 'a'), (1, 'b')],
    ([1, 'a'], (1, 'b')),
    ((1, [(1, 'a')]), (1, 'b')),
    ((1, 'a', 1),),
    ((1, ()), (1, 'b')),
    ((1, 'A'),),
    flat('abcdef'),
    ((1, flat('abcde')), (1, flat('fghi'))),
    nested(5, 'a'),
]

NOT_TREES = ODD_VALUES + ALMOST_TREES

# Values that are not the lengths of three feeds.
BAD_LENGTHS = ODD_VALUES + [
    (1, 1), (1, 1, 1, 1), [1, 1, 1], (-1, 1, 1), (1, -1, 1), (1, 1, -1), (61, 1, 1), (1, 61, 1), (1, 1, 61),
    (True, 1, 1), (1, 1, False), (1, None, 1), (1, '1', 1), (1, (1,), 1), ([1], 1, 1), (1, 1, 10 ** 39),
    (1, -10 ** 39, 1), 'abc', '111', 3, 1, 0, {'a': 1, 'b': 1, 'c': 1}, (1, 1, 1, None), ('a', 'b', 'c'),
]

# Values that are not names of feeds called a, b and c.
BAD_NAMES = ODD_VALUES + ['d', 'ab', 'abc', 'B', 'a ', 0, 1, ['a'], ('a', 0), {'a': 1}]

# Values that are not items of feeds called a, b and c with two items each.
BAD_ITEMS = ODD_VALUES + [
    ('a', 2), ('b', 2), ('c', 2), ('a', -1), ('a', 3), ('a', 60), ('d', 0), ('ab', 0), ('', 0), ('A', 0),
    ('a', True), ('a', False), ('a', None), ('a', '0'), ('a', (0,)), ('a', [0]), ('a', 10 ** 39), ('a', -10 ** 39),
    ['a', 0], ('a',), ('a', 0, 0), (0, 'a'), (None, 0), (0, 0), (('a',), 0), (['a'], 0), (('a', 0),), [('a', 0)],
    'a', 'a0', 0, 1, {'a': 0},
]

# Values that are not integers from 0 on, or far above every limit.
BAD_NUMBERS = ODD_VALUES + [-2, -60, -10 ** 39, 10 ** 39, '0', '1', (0,), (1,), [0], [1], {}, {0: 1}]

# Values that are not seen names of feeds called a, b and c, also if some of them could not be read.
BAD_SEEN = [value for value in ODD_VALUES if value not in ((), (None,), ('a',), ('a', 'b'))] + [
    ('d',), ('a', 'd'), ('d', 'a'), ('a', 'ab'), ('abc',), ('A',), ('',), ('a ',), ('a', 0), (0,), (True,), (False, 'a'),
    ('a', ('b',)), ('a', ['b']), (['a'],), (('a', 0),), ('a', ()), ['a', 'b'], ['a', 'c', 'b'], 'a', 'ab', 'acb', 0, 1, 3,
    ('a',) * 61, ('a', 'c', 'b') * 21, ('a',) * 80, ('a',) * 60 + (None,), (None,) * 5, (None,) * 80, {'a': 1}, [None],
]

# Trees of one feed, mixers of one part, and trees of eight feeds in four levels of mixers.
ONE_FEED = ['a', 'abcdef', ((9, 'a'),), nested(4, 'a')]
SINGLE_PARTS = [
    nested(2, A),
    ((4, B),),
    ((3, ((2, 'a'),)), (1, 'b')),
    ((2, ((3, ((1, ((9, 'a'),)), (2, 'b'))),)), (5, ((7, 'c'),))),
]
DEEP = [
    ((2, ((3, ((1, ((2, 'a'), (1, 'b'))), (4, 'c'))), (1, ((2, 'd'), (5, 'e'))))), (3, ((1, 'f'), (2, 'g'))), (1, 'h')),
    ((9, ((1, ((2, ((1, 'a'), (3, 'b'))), (3, ((2, 'c'), (2, 'd'))))),
          (2, ((1, ((4, 'e'), (1, 'f'))), (5, ((1, 'g'), (9, 'h'))))))),),
    ((1, ((1, ((1, flat('abcde')), (1, 'f'))), (1, 'g'))), (1, 'h')),
    ((1, 'h'), (9, ((2, 'g'), (9, ((3, 'f'), (8, ((4, 'a'), (5, 'b'), (6, 'c'), (7, 'd'), (9, 'e')))))))),
]
SPECIAL = [A, B, F, G] + ONE_FEED + SINGLE_PARTS + DEEP


def names_of(tree):
    if isinstance(tree, str):
        return [tree]
    return [name for weight, part in tree for name in names_of(part)]


def by_rounds(tree, lengths):
    """The output by the guarantee on the order of two items, without any turns."""
    return by_rounds_from(tree, dict(zip(names_of(tree), lengths)))


def by_rounds_from(tree, lengths):
    if isinstance(tree, str):
        return [(tree, index) for index in range(lengths[tree])]
    keyed = []
    for number, (weight, part) in enumerate(tree):
        for place, item in enumerate(by_rounds_from(part, lengths)):
            keyed.append((place // weight, number, place, item))
    return [item for *key, item in sorted(keyed)]


def some_tree(source, names, around=0):
    """A tree with just these names; around is the number of mixers in which it lies."""
    if around == 4:
        return names[0]
    if len(names) == 1 and source.random() < 0.7:
        return names[0]
    # The deepest mixers have only feeds as parts, so they cannot take more than five.
    least = len(names) if around == 3 else 1
    groups = split(source, names, least)
    return tuple((source.randint(1, 9), some_tree(source, group, around + 1)) for group in groups)


def split(source, names, least):
    # No more than five parts, and none with more names than a mixer of the deepest kind can hold.
    while True:
        many = source.randint(least, min(5, len(names)))
        cuts = sorted(source.sample(range(1, len(names)), many - 1))
        groups = [names[low:high] for low, high in zip([0] + cuts, cuts + [len(names)])]
        if all(len(group) <= 5 for group in groups):
            return groups


def some_trees(many=150):
    """Always the same trees, of one to eight feeds."""
    source = random.Random(7)
    trees = []
    for number in range(many):
        names = source.sample(string.ascii_lowercase, number % 8 + 1)
        trees.append(some_tree(source, names))
    return trees


def plain_trees(names, weights):
    """All trees with these names in this order and these weights in which each mixer has several parts."""
    if len(names) == 1:
        return [names[0]]
    trees = []
    for cuts in itertools.chain.from_iterable(
            itertools.combinations(range(1, len(names)), many) for many in range(1, len(names))):
        groups = [names[low:high] for low, high in zip((0, *cuts), (*cuts, len(names)))]
        for parts in itertools.product(*[plain_trees(group, weights) for group in groups]):
            for row in itertools.product(weights, repeat=len(parts)):
                trees.append(tuple(zip(row, parts)))
    return trees


def some_lengths(tree, number):
    source = random.Random(number)
    most = source.choice([1, 4, 15, 60])
    return tuple(source.choice([0, source.randint(0, most), most]) for name in names_of(tree))


def edge_lengths(tree):
    """Lengths at their limits: all feeds empty or full, and only one of them so."""
    many = len(names_of(tree))
    found = [(0,) * many, (60,) * many, (1,) * many]
    for at in range(many):
        found.append((0,) * at + (60,) + (0,) * (many - at - 1))
        found.append((60,) * at + (0,) + (60,) * (many - at - 1))
        found.append((0,) * at + (1,) + (0,) * (many - at - 1))
    return found


def some_cases(many=150):
    """Pairs of a tree and lengths: special trees, also with lengths at their limits, and many others."""
    cases = [(tree, some_lengths(tree, number)) for number, tree in enumerate(SPECIAL * 3 + some_trees(many))]
    return cases + [(tree, lengths) for tree in (A, B, G, *ONE_FEED, DEEP[0]) for lengths in edge_lengths(tree)]


def all_lengths(feeds, many):
    """All tuples of so many lengths whose sum is many."""
    return [lengths for lengths in itertools.product(range(many + 1), repeat=feeds) if sum(lengths) == many]


def names_by_rounds(tree, lengths):
    """The feeds of the whole output, as a tuple of their names."""
    return tuple(name for name, index in by_rounds(tree, lengths))


def endless(tree):
    """The endless row of names, without an end."""
    if isinstance(tree, str):
        yield from itertools.repeat(tree)
    parts = [(weight, endless(part)) for weight, part in tree]
    while True:
        for weight, part in parts:
            yield from itertools.islice(part, weight)


def row_of(tree, many):
    return list(itertools.islice(endless(tree), many))


def error_of(function, arguments):
    """The class of the error that a call raises, or None."""
    try:
        function(*arguments)
    except Exception as error:
        return type(error)
    return None


def check_wrong(test, function, good, wrong):
    """Checks that each wrong argument raises its error, whatever the arguments behind it are.

    The wrong arguments are a pair (error, values) for each argument, in order.
    """
    test.assertIsNone(error_of(function, good))
    for at, (error, values) in enumerate(wrong):
        for number, value in enumerate(values):
            behind = [others[number % len(others)] for later, others in wrong[at + 1:]]
            for rest in (good[at + 1:], tuple(behind)):
                arguments = (*good[:at], value, *rest)
                # Some of the values are too large to be shown.
                test.assertIs(error_of(function, arguments), error, (function.__name__, at, number))


def check_new_list(test, function, *arguments):
    """Checks that a returned list belongs to the caller."""
    result = function(*arguments)
    test.assertIs(type(result), list)
    before = list(result)
    result.append(None)
    result[0] = 'changed'
    test.assertEqual(function(*arguments), before)
    test.assertIsNot(function(*arguments), function(*arguments))
