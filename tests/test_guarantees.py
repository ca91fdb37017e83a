"""What the whole guarantees of the order of items, over many trees and lengths."""

import itertools
import unittest

from mixtrees.comparing import difference, same_always
from mixtrees.mixing import mixed
from mixtrees.places import counts_in, is_before, item_at, place_of, when_all
from mixtrees.trees import is_tree, plain, restricted
from tests.helper import SPECIAL, by_rounds, names_of, plain_trees, some_cases, some_lengths, some_trees


def meeting_parts(tree, name, other):
    """The numbers of the two parts, and the mixer at which two feeds meet."""
    one, two = [[feed in names_of(part) for weight, part in tree].index(True) for feed in (name, other)]
    if one == two:
        return meeting_parts(tree[one][1], name, other)
    return one, two, tree


def some_pairs(tree, lengths):
    """Pairs of items of different feeds, at the beginning, amid and at the end of each feed."""
    rows = [(name, sorted({0, length // 3, length - 1})) for name, length in zip(names_of(tree), lengths) if length]
    for (name, indices), (other, others) in itertools.permutations(rows, 2):
        for index, second in itertools.product(indices, others):
            yield (name, index), (other, second)


def number_in(mixer, number, lengths, item):
    """The one number that decides: the place in the output of the part, divided by its weight."""
    weight, part = mixer[number]
    output = by_rounds(part, tuple(lengths[name] for name in names_of(part)))
    return output.index(item) // weight


class OrderTest(unittest.TestCase):

    cases = [(tree, some_lengths(tree, number)) for number, tree in enumerate(SPECIAL + some_trees(32))]

    def test_the_meeting_mixer_decides(self):
        for tree, lengths in self.cases:
            by_name = dict(zip(names_of(tree), lengths))
            for item, other in some_pairs(tree, lengths):
                one, two, mixer = meeting_parts(tree, item[0], other[0])
                key = (number_in(mixer, one, by_name, item), one)
                other_key = (number_in(mixer, two, by_name, other), two)
                self.assertIs(is_before(tree, lengths, item, other), key < other_key, (tree, lengths, item, other))

    def test_no_other_part_matters(self):
        for tree, lengths in self.cases:
            for item, other in some_pairs(tree, lengths):
                one, two, mixer = meeting_parts(tree, item[0], other[0])
                kept = names_of(mixer[one][1]) + names_of(mixer[two][1])
                left = tuple(length if name in kept else 0 for name, length in zip(names_of(tree), lengths))
                self.assertEqual(
                    is_before(tree, left, item, other), is_before(tree, lengths, item, other),
                    (tree, lengths, item, other))


class AgreementTest(unittest.TestCase):

    def test_places_items_and_counts_agree(self):
        for tree, lengths in some_cases(60):
            output = mixed(tree, lengths)
            names = names_of(tree)
            for place in range(0, len(output), 11):
                item = item_at(tree, lengths, place)
                self.assertEqual(item, output[place])
                self.assertEqual(place_of(tree, lengths, item), place)
                before = counts_in(tree, lengths, place)
                self.assertEqual(before[names.index(item[0])], item[1])
                before[names.index(item[0])] += 1
                self.assertEqual(counts_in(tree, lengths, place + 1), before)
            needed = when_all(tree, lengths)
            at_all = [min(length, 1) for length in lengths]
            self.assertEqual([min(count, 1) for count in counts_in(tree, lengths, needed)], at_all)
            if needed > 0:
                self.assertNotEqual([min(count, 1) for count in counts_in(tree, lengths, needed - 1)], at_all)

    def test_other_feeds_empty_as_restricted(self):
        for number, (tree, lengths) in enumerate(some_cases(60)):
            names = names_of(tree)
            kept = [name for place, name in enumerate(names) if (number + place) % 3] or names[:1]
            some = tuple(length if name in kept else 0 for name, length in zip(names, lengths))
            left = tuple(length for name, length in zip(names, lengths) if name in kept)
            smaller = restricted(tree, tuple(kept))
            self.assertEqual(mixed(tree, some), mixed(smaller, left))
            self.assertEqual(when_all(tree, some), when_all(smaller, left))
            for place, item in list(enumerate(mixed(smaller, left)))[::9]:
                self.assertEqual(place_of(tree, some, item), place)
                self.assertEqual(item_at(tree, some, place), item)
                counts = dict(zip(names, counts_in(tree, some, place)))
                self.assertEqual([counts[name] for name in kept], counts_in(smaller, left, place))


def outputs_of_some(tree, feeds):
    """The outputs if only so many feeds have items: three items each, one more than the weights below."""
    rows = []
    for chosen in itertools.combinations(names_of(tree), feeds):
        rows.append(tuple(mixed(tree, tuple(3 * (name in chosen) for name in names_of(tree)))))
    return tuple(rows)


def with_single_parts(tree):
    """The trees in which one part, or the whole tree, is put into a mixer of one part."""
    found = [((7, tree),)]
    if not isinstance(tree, str):
        for at, (weight, part) in enumerate(tree):
            found.extend(tree[:at] + ((weight, inner),) + tree[at + 1:] for inner in with_single_parts(part))
    return [other for other in found if is_tree(other)]


class TwoTreesTest(unittest.TestCase):

    trees = plain_trees('abcd', (1, 2))

    def test_two_feeds_are_not_enough_and_three_are(self):
        self.assertEqual(len(set(self.trees)), 496)
        by_two = {tree: outputs_of_some(tree, 2) for tree in self.trees}
        self.assertLess(len(set(by_two.values())), 496)
        by_three = {tree: (by_two[tree], outputs_of_some(tree, 3)) for tree in self.trees}
        self.assertEqual(len(set(by_three.values())), 496)
        alike = 0
        for one, other in itertools.combinations(self.trees, 2):
            if by_two[one] == by_two[other]:
                alike += 1
                self.assertIs(same_always(one, other), False)
                self.assertEqual(len([length for length in difference(one, other) if length > 0]), 3)
        self.assertGreater(alike, 10)

    def test_mixers_of_one_part_make_no_difference(self):
        for number, tree in enumerate(self.trees[::4] + SPECIAL + some_trees(24)):
            lengths = some_lengths(tree, number)
            for other in with_single_parts(tree):
                self.assertEqual(plain(other), plain(tree))
                self.assertEqual(mixed(other, lengths), mixed(tree, lengths))
                self.assertIs(same_always(tree, other), True)
