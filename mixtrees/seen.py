"""Outputs that were seen: the lengths, the ends of feeds, the unread names and the weights that they tell."""

from mixtrees.errors import InvalidName, InvalidSeen
from mixtrees.mixing import first_names
from mixtrees.places import lengths_by_name
from mixtrees.trees import GREATEST_WEIGHT, is_feed_name, names_in, require_tree

MOST_SEEN = 60
MOST_UNREAD = 4
FEWEST_NAMES = 2
MOST_NAMES = 3


def lengths_for(tree, seen):
    """The lengths for which the seen names are the feeds of the whole output, or None if there are none."""
    require_tree(tree)
    require_seen(names_in(tree), seen)
    lengths = times_seen(names_in(tree), seen)
    if not begins_with(tree, lengths, seen):
        return None
    return tuple([lengths[name] for name in lengths])


def ended(tree, seen):
    """The list of the names of the feeds that can have no further item, or None if no output begins so."""
    # If longer feeds give this beginning, those without further items do, too: what was passed over is empty still.
    lengths = lengths_for(tree, seen)
    if lengths is None:
        return None
    least = lengths_by_name(tree, lengths)
    # A feed has ended just if it was passed over or left early, whatever the others have: one more item tells.
    return [name for name in least if not begins_with(tree, {**least, name: least[name] + 1}, seen)]


def fillings(tree, seen):
    """The ascending list of the whole outputs, as tuples of names, that agree with the names that could be read."""
    require_tree(tree)
    names = names_in(tree)
    require_seen([*names, None], seen)
    unread = seen.count(None)
    if unread > MOST_UNREAD:
        raise InvalidSeen("at most 4 names may be None")
    read = times_seen(names, seen)
    found = []
    # The lengths tell the whole output, and there are far fewer lengths than ways to fill in names.
    for added in ways_to_share(unread, len(names)):
        lengths = {name: read[name] + many for name, many in zip(names, added)}
        row = first_names(tree, lengths, len(seen))
        if agrees(row, seen):
            found.append(tuple(row))
    return sorted(found)


def weights_for(names, seen):
    """The ascending list of the weights of a mixer of these feeds that gives the seen names as a whole output."""
    require_feed_names(names)
    require_seen(names, seen)
    lengths = times_seen(names, seen)
    return [weights for weights in all_weights(len(names)) if begins_with(tuple(zip(weights, names)), lengths, seen)]


def require_seen(allowed, value):
    """Raises InvalidSeen if a value is not a tuple of at most 60 of the allowed names."""
    if not isinstance(value, tuple) or len(value) > MOST_SEEN:
        raise InvalidSeen("the seen names must be a tuple of at most 60 names")
    for name in value:
        if name not in allowed:
            raise InvalidSeen("there is no feed with a name that was seen")


def require_feed_names(value):
    """Raises InvalidName if a value is not a tuple of 2 or 3 different names that feeds can have."""
    if not isinstance(value, tuple) or not FEWEST_NAMES <= len(value) <= MOST_NAMES:
        raise InvalidName("the names must be a tuple of 2 or 3 names")
    for name in value:
        if not isinstance(name, str) or not is_feed_name(name):
            raise InvalidName("a feed cannot have this name")
    if len(set(value)) != len(value):
        raise InvalidName("the names must be different")


def times_seen(names, seen):
    """How often each of these names was seen, as a dict by the names."""
    return {name: seen.count(name) for name in names}


def begins_with(tree, lengths, seen):
    """Whether an output begins with the seen names; the lengths are a dict by the names of the feeds."""
    return agrees(first_names(tree, lengths, len(seen)), seen)


def agrees(row, seen):
    """Whether a row of names has each seen name that could be read at its place."""
    return all([name is None or name == own for own, name in zip(row, seen)])


def ways_to_share(many, feeds):
    """All lists of numbers, one for each of so many feeds, whose sum is many."""
    if feeds == 1:
        return [[many]]
    found = []
    for own in range(many + 1):
        found.extend([[own, *others] for others in ways_to_share(many - own, feeds - 1)])
    return found


def all_weights(many):
    """The ascending list of all tuples of so many weights."""
    rows = [()]
    for number in range(many):
        rows = [(*row, weight) for row in rows for weight in range(1, GREATEST_WEIGHT + 1)]
    return rows
