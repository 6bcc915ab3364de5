"""What the conventions call integers, tuples of integers, and ascending."""


def is_integer(thing):
    """Whether any value is an integer."""
    # Python counts bools among its integers, the document does not.
    return isinstance(thing, int) and not isinstance(thing, bool)


def is_integer_from(thing, least):
    """Whether any value is an integer, the least one or above it."""
    return is_integer(thing) and thing >= least


def are_integers_from(thing, least):
    """Whether any value is a tuple of integers, each the least one or above it."""
    return isinstance(thing, tuple) and all([is_integer_from(part, least) for part in thing])


def is_rising(row):
    """Whether each item of a row is above the item ahead of it."""
    return all([row[k] < row[k + 1] for k in range(len(row) - 1)])


def is_one_of(thing, rights):
    """Whether any value is one of some right ones of tuples, strings and integers."""
    return any([is_just(thing, right) for right in rights])


def is_just(thing, right):
    """Whether any value equals a right one of tuples, strings and integers, and is of its kinds."""
    if isinstance(right, tuple):
        if not isinstance(thing, tuple) or len(thing) != len(right):
            return False
        return all([is_just(part, other) for part, other in zip(thing, right)])
    # A bool can equal an integer, but is of another kind.
    return not isinstance(thing, bool) and thing == right
