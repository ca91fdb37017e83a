"""What several tests use: trees, values that are none, and another way to mix."""

import random
import string

A = ((2, 'a'), (1, 'b'))
B = ((1, ((1, 'a'), (1, 'b'))), (1, 'c'))
F = ((1, 'a'), (1, 'b'), (1, 'c'))
G = ((1, ((1, 'a'), (1, 'b'))), (3, 'c'))


def nested(around, inner):
    """A value in so many mixers of one part."""
    for number in range(around):
        inner = ((1, inner),)
    return inner


def wide(depth, width, end):
    """A value whose parts are all the same object, so that it is small in memory only."""
    for number in range(depth):
        end = (end,) * width
    return end


def wide_mixer(depth, end):
    for number in range(depth):
        end = ((1, end),) * 5
    return end


def flat(names, weight=1):
    return tuple((weight, name) for name in names)


# Values that are no trees, no names, no lengths and no numbers within a limit.
ODD_VALUES = [
    None, True, False, 10 ** 40 - 1, 1 - 10 ** 40, -1,
    '', ' ', '~', 'A', 'abcdefg', 'x' * 100, '~' * 100,
    [], [[]], ['a'], [1, 'a'], [None] * 80, ['a'] * 80,
    (), ((),), (None,), ('a',), ('a', 'b'), ('aa', 'bb'), (1,), (True,) * 80,
    wide(12, 80, 'a'), wide(12, 5, 1), wide(12, 2, ()), wide(12, 1, None), wide_mixer(6, 'a'),
    [wide(11, 80, 'a')],
]

# Values that look like trees, but are none.
ALMOST_TREES = [
    (1, 'a'),
    ((1, 'a'), (1, 'a')),
    ((0, 'a'), (1, 'b')),
    ((1, 'a'), (10, 'b')),
    ((True, 'a'), (1, 'b')),
    [(1, 'a'), (1, 'b')],
    ([1, 'a'], (1, 'b')),
    ((1, [(1, 'a')]), (1, 'b')),
    ((1, 'a', 1),),
    ((1, ()), (1, 'b')),
    ((1, 'A'),),
    flat('abcdef'),
    ((1, flat('abcde')), (1, flat('fghi'))),
    nested(5, 'a'),
]

NOT_TREES = ODD_VALUES + ALMOST_TREES


def names_of(tree):
    if isinstance(tree, str):
        return [tree]
    return [name for weight, part in tree for name in names_of(part)]


def by_rounds(tree, lengths):
    """The output by the guarantee on the order of two items, without any turns."""
    return by_rounds_from(tree, dict(zip(names_of(tree), lengths)))


def by_rounds_from(tree, lengths):
    if isinstance(tree, str):
        return [(tree, index) for index in range(lengths[tree])]
    keyed = []
    for number, (weight, part) in enumerate(tree):
        for place, item in enumerate(by_rounds_from(part, lengths)):
            keyed.append((place // weight, number, place, item))
    return [item for *key, item in sorted(keyed)]


def some_tree(source, names, around=0):
    """A tree with just these names; around is the number of mixers in which it lies."""
    if around == 4:
        return names[0]
    if len(names) == 1 and source.random() < 0.7:
        return names[0]
    # The deepest mixers have only feeds as parts, so they cannot take more than five.
    least = len(names) if around == 3 else 1
    groups = split(source, names, least)
    return tuple((source.randint(1, 9), some_tree(source, group, around + 1)) for group in groups)


def split(source, names, least):
    # No more than five parts, and none with more names than a mixer of the deepest kind can hold.
    while True:
        many = source.randint(least, min(5, len(names)))
        cuts = sorted(source.sample(range(1, len(names)), many - 1))
        groups = [names[low:high] for low, high in zip([0] + cuts, cuts + [len(names)])]
        if all(len(group) <= 5 for group in groups):
            return groups


def some_trees(many=150):
    """Always the same trees, of one to eight feeds."""
    source = random.Random(7)
    trees = []
    for number in range(many):
        names = source.sample(string.ascii_lowercase, number % 8 + 1)
        trees.append(some_tree(source, names))
    return trees


def some_lengths(tree, number):
    source = random.Random(number)
    most = source.choice([1, 4, 15, 60])
    return tuple(source.choice([0, source.randint(0, most), most]) for name in names_of(tree))
