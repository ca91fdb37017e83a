"""Endless feeds: the row of the feeds from which items are taken if no feed ever ends."""

from mixtrees.errors import InvalidNumber, TooLong
from mixtrees.mixing import first_names
from mixtrees.places import counts_of_feeds
from mixtrees.trees import is_whole, names_in, plain, require_name, require_tree

MOST_NAMES = 1000
MOST_ITEMS = 10 ** 18
LONGEST_PERIOD = 5000


def names_endless(tree, many):
    """The list of the names of the feeds from which the first items are taken."""
    require_tree(tree)
    if not is_whole(many, 0, MOST_NAMES):
        raise InvalidNumber("many must be an integer from 0 to 1000")
    return names_without_end(tree, many)


def period(tree):
    """The smallest number of places after which the endless row of names repeats itself."""
    require_tree(tree)
    return period_of(plain(tree))


def shares(tree):
    """The list with the share of each feed in a period, a fraction."""
    require_tree(tree)
    return shares_in(tree, 1, 1)


def counts_endless(tree, many):
    """The list with the number of items of each feed among the first items."""
    require_tree(tree)
    if not is_whole(many, 0, MOST_ITEMS):
        raise InvalidNumber("many must be an integer from 0 to 10 ** 18")
    return counts_of_feeds(tree, long_enough(tree, many), many)


def longest_wait(tree, name):
    """The largest number of items of other feeds between two successive items of a feed."""
    require_tree(tree)
    require_name(tree, name)
    size = short_period(tree)
    # Two periods, so that the wait from the last item of a period to the first one of the next is there, too.
    row = names_without_end(tree, 2 * size)
    places = [place for place, found in enumerate(row) if found == name]
    return max([after - before - 1 for before, after in zip(places, places[1:])])


def short_period(tree):
    """The period of a tree; raises TooLong if it is more than 5000."""
    size = period(tree)
    if size > LONGEST_PERIOD:
        raise TooLong("the period is more than 5000")
    return size


def long_enough(tree, many):
    """Lengths, as a dict by the names of the feeds, with which the first so many items are as with endless feeds."""
    # Even if one feed gives all of them, it is not found empty before the last one is taken.
    return {name: many for name in names_in(tree)}


def names_without_end(tree, many):
    """The names of the feeds from which the first items are taken, however many."""
    return first_names(tree, long_enough(tree, many), many)


def period_of(tree):
    """The period of a tree in which each mixer has several parts."""
    if isinstance(tree, str):
        return 1
    # With several parts the row tells where each round begins, so it repeats itself only after whole rounds: as soon
    # as each part has given a whole number of its own periods.
    rounds = 1
    for weight, part in tree:
        inner = period_of(part)
        needed = inner // common_divisor(inner, weight)
        rounds = rounds * needed // common_divisor(rounds, needed)
    return rounds * sum([weight for weight, part in tree])


def shares_in(tree, top, bottom):
    """The shares of the feeds of a tree that has the share top / bottom itself."""
    if isinstance(tree, str):
        divisor = common_divisor(top, bottom)
        return [(top // divisor, bottom // divisor)]
    whole = sum([weight for weight, part in tree])
    found = []
    for weight, part in tree:
        found.extend(shares_in(part, top * weight, bottom * whole))
    return found


def common_divisor(one, other):
    """The greatest common divisor of two positive integers."""
    while other > 0:
        one, other = other, one % other
    return one
