"""What the tests share: values of many kinds, many families, and plain looks at all sets."""

import random
from itertools import combinations


def deep(depth, core):
    """A value nested so deep, in tuples, lists and dicts by turns."""
    thing = core
    for level in range(depth):
        thing = ((thing,), [thing, level], {"k": thing, level: None})[level % 3]
    return thing


# Values that are no integer at all.
NO_INTEGERS = (
    True, False, None, "", "0", "1", "01", "-", "a b\nc", "~ !", "x" * 1000,
    (), (0,), (1,), ((),), ((0,),), (True,), (None, "1"), (1, (2, [3])),
    [], [0], [1, 2], [[0]], [(0, 1)], {}, {0: 1}, {"a": [1, {"b": ()}]},
    deep(3, 1), deep(9, 0), deep(10, ()), (0,) * 3000, ["a"] * 2999,
)

# Values that are no integer from 0 on, and none from 1 on.
NO_WHOLES = NO_INTEGERS + (-1, -2, -(10 ** 39))
NO_SIZES = NO_WHOLES + (0,)

# Values that stand in the place of parts of an argument.
PARTS = (
    True, False, None, "", "0", -1, 0, 1, 2, 8, 9, 10, 10 ** 39, -(10 ** 39),
    (), (0,), (1,), (0, 1), (1, 0), (0, 0), (True,), (False, True), ((0,),),
    [], [0], [0, 1], {}, {0: 1}, deep(7, 0),
)


def spoiled(thing):
    """What comes from a value by a change at one place: another part, one fewer, exchanged, repeated."""
    for part in PARTS:
        yield part
    if isinstance(thing, int):
        yield bool(thing)
        yield str(thing)
        yield thing + 1
        yield thing - 1
    if isinstance(thing, tuple):
        yield list(thing)
        yield {at: part for at, part in enumerate(thing)}
        yield thing[::-1]
        yield (thing,)
        for at, part in enumerate(thing):
            yield thing[:at] + thing[at + 1:]
            yield thing[:at] + (part,) + thing[at:]
            yield thing[:at] + thing[at + 1:] + (part,)
            for other in spoiled(part):
                yield thing[:at] + (other,) + thing[at + 1:]


def is_plain_integer(thing, least):
    return type(thing) is int and thing >= least


def is_plain_set(thing):
    if type(thing) is not tuple or not all(is_plain_integer(point, 0) for point in thing):
        return False
    return list(thing) == sorted(set(thing))


def is_plain_cascade(size, thing):
    if type(thing) is not tuple or not all(is_plain_integer(top, 1) for top in thing):
        return False
    if list(thing) != sorted(set(thing), reverse=True):
        return False
    return len(thing) <= size and all(top + at >= size for at, top in enumerate(thing))


def are_plain_first_sets(thing):
    if type(thing) is not tuple or not all(is_plain_set(part) for part in thing):
        return False
    points = set()
    points.update(*thing)
    return points in [set(range(n)) for n in range(10)]


def is_plain_family(thing):
    if not are_plain_first_sets(thing) or list(thing) != sorted(set(thing)) or () in thing:
        return False
    lots = [frozenset(facet) for facet in thing]
    return not any(one < other for one in lots for other in lots)


def all_sets(points):
    """All sets of some points, as frozensets."""
    points = sorted(points)
    return [frozenset(part) for size in range(len(points) + 1) for part in combinations(points, size)]


def plain_faces(family):
    """All faces of a family, found by a look at all sets of its points."""
    facets = [frozenset(facet) for facet in family]
    points = frozenset().union(*facets)
    return {part for part in all_sets(points) if not part or any(part <= facet for facet in facets)}


def plain_facets(faces):
    """The ascending tuple of the faces other than () to which no point can be added."""
    points = frozenset().union(*faces)
    great = [face for face in faces
             if face and not any(face | {point} in faces for point in points - face)]
    return tuple(sorted(tuple(sorted(face)) for face in great))


def plain_pair(faces):
    """(points, inner) of all the faces that there are."""
    points = tuple(sorted(frozenset().union(*faces)))
    moved = {frozenset(points.index(point) for point in face) for face in faces}
    return points, plain_facets(moved)


def points_number(family):
    return len({point for facet in family for point in facet})


def families_of(n):
    """All families with just n points, for an n of at most 4."""
    sets = [part for part in all_sets(range(n)) if part]
    found = []

    def extend(chosen, at):
        if at == len(sets):
            if frozenset().union(*chosen) == frozenset(range(n)):
                found.append(tuple(sorted(tuple(sorted(part)) for part in chosen)))
            return
        extend(chosen, at + 1)
        if not any(part <= sets[at] or sets[at] <= part for part in chosen):
            extend(chosen + [sets[at]], at + 1)

    extend([], 0)
    return found


def some_family(chance, n, many, greatest):
    """A family of n points: some sets that a seeded chance picks, and the points that they left out."""
    faces = {frozenset({point}) for point in range(n)}
    for _ in range(many):
        size = chance.randint(1, min(n, greatest))
        faces.update(part for part in all_sets(chance.sample(range(n), size)) if part)
    return plain_facets(faces)


def many_families():
    """All families of at most 4 points, and many of 5 to 9 points."""
    families = [()]
    for n in range(1, 5):
        families.extend(families_of(n))
    chance = random.Random(1963)
    for n in range(5, 10):
        families.append(tuple((point,) for point in range(n)))
        families.append((tuple(range(n)),))
        families.append(tuple(combinations(range(n), n - 1)))
        families.append(tuple(combinations(range(n), n // 2)))
        for many in (1, 2, 3, 5, 8, 12):
            families.append(some_family(chance, n, many, 3))
            families.append(some_family(chance, n, many, n - 1))
    return families


def some_families():
    """A few families of each number of points, for tests that try much on each."""
    families = many_families()
    return [family for at, family in enumerate(families) if at < 12 or at % 7 == 0]


def wrong_families():
    """Many values that are no family."""
    wrong = list(NO_INTEGERS + (0, 1, -1, 10 ** 39, ((1,),), ((0, 1), (0,)), (tuple(range(10)),), [(0,)]))
    wrong.extend(spoiled(()))
    wrong.extend(spoiled(((0, 1), (2,))))
    return [thing for thing in wrong if not is_plain_family(thing)]


def error_of(call, *args, **named):
    """The error that a call raises, None if it raises none."""
    try:
        call(*args, **named)
    except Exception as error:
        return error
    return None


class Raises:
    """A mixin for test cases: which error a call raises, and what the error carries."""

    def assert_raises_with(self, kind, attribute, value, call, *args, **named):
        error = error_of(call, *args, **named)
        self.assertIs(type(error), kind, (call.__name__, args, named, error))
        carried = getattr(error, attribute)
        self.assertEqual(repr(carried), repr(value), (call.__name__, args, named))

    def assert_bad(self, kind, wrong, call, *args, **named):
        """The error carries the wrong value itself, and the arguments are as they were."""
        before = repr((args, named))
        error = error_of(call, *args, **named)
        self.assertIs(type(error), kind, (call.__name__, args, named, error))
        self.assertIs(error.thing, wrong)
        self.assertEqual(repr((args, named)), before)
