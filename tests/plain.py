"""What the tests share: values of many kinds, many families, and plain looks at all sets."""

import random
from functools import cmp_to_key, lru_cache
from itertools import combinations, combinations_with_replacement, product
from math import comb

from holerows.workshops import Workshop


def deep(depth, core):
    """A value nested so deep, in tuples, lists and dicts by turns."""
    thing = core
    for level in range(depth):
        thing = ((thing,), [thing, level], {"k": thing, level: None})[level % 3]
    return thing


SHOP = Workshop(((0, 1), (2,)))

# Values that are no integer at all.
NO_INTEGERS = (
    True, False, None, "", "0", "1", "01", "-", "a b\nc", "~ !", "x" * 1000,
    (), (0,), (1,), ((),), ((0,),), (True,), (None, "1"), (1, (2, [3])),
    [], [0], [1, 2], [[0]], [(0, 1)], {}, {0: 1}, {"a": [1, {"b": ()}]},
    deep(3, 1), deep(9, 0), deep(10, ()), (0,) * 3000, ["a"] * 2999,
    SHOP, Workshop(()), (SHOP,), [SHOP, 0], {"a": SHOP}, (SHOP, Workshop(())), deep(9, SHOP),
)

# Values that are no integer from 0 on, and none from 1 on.
NO_WHOLES = NO_INTEGERS + (-1, -2, -(10 ** 39))
NO_SIZES = NO_WHOLES + (0,)

# Values that stand in the place of parts of an argument.
PARTS = (
    True, False, None, "", "0", -1, 0, 1, 2, 8, 9, 10, 10 ** 39, -(10 ** 39),
    (), (0,), (1,), (0, 1), (1, 0), (0, 0), (True,), (False, True), ((0,),),
    [], [0], [0, 1], {}, {0: 1}, deep(7, 0), SHOP, (SHOP,),
)


def spoiled(thing):
    """What comes from a value by a change at one place: another part, one fewer, exchanged, repeated."""
    for part in PARTS:
        yield part
    if isinstance(thing, int):
        yield bool(thing)
        yield str(thing)
        yield thing + 1
        yield thing - 1
    if isinstance(thing, tuple):
        yield list(thing)
        yield {at: part for at, part in enumerate(thing)}
        yield thing[::-1]
        yield (thing,)
        for at, part in enumerate(thing):
            yield thing[:at] + thing[at + 1:]
            yield thing[:at] + (part,) + thing[at:]
            yield thing[:at] + thing[at + 1:] + (part,)
            for other in spoiled(part):
                yield thing[:at] + (other,) + thing[at + 1:]


def is_plain_integer(thing, least):
    return type(thing) is int and thing >= least


def is_plain_set(thing):
    if type(thing) is not tuple or not all(is_plain_integer(point, 0) for point in thing):
        return False
    return list(thing) == sorted(set(thing))


def is_plain_cascade(size, thing):
    if type(thing) is not tuple or not all(is_plain_integer(top, 1) for top in thing):
        return False
    if list(thing) != sorted(set(thing), reverse=True):
        return False
    return len(thing) <= size and all(top + at >= size for at, top in enumerate(thing))


def is_plain_counts(thing):
    return type(thing) is tuple and len(thing) <= 16 and all(is_plain_integer(part, 1) for part in thing)


def are_plain_first_sets(thing):
    if type(thing) is not tuple or not all(is_plain_set(part) for part in thing):
        return False
    points = set()
    points.update(*thing)
    return points in [set(range(n)) for n in range(10)]


def is_plain_family(thing):
    if not are_plain_first_sets(thing) or list(thing) != sorted(set(thing)) or () in thing:
        return False
    lots = [frozenset(facet) for facet in thing]
    return not any(one < other for one in lots for other in lots)


def all_sets(points):
    """All sets of some points, as frozensets."""
    points = sorted(points)
    return [frozenset(part) for size in range(len(points) + 1) for part in combinations(points, size)]


def plain_faces(family):
    """All faces of a family, found by a look at all sets of its points."""
    facets = [frozenset(facet) for facet in family]
    points = frozenset().union(*facets)
    return {part for part in all_sets(points) if not part or any(part <= facet for facet in facets)}


def plain_facets(faces):
    """The ascending tuple of the faces other than () to which no point can be added."""
    points = frozenset().union(*faces)
    great = [face for face in faces
             if face and not any(face | {point} in faces for point in points - face)]
    return tuple(sorted(tuple(sorted(face)) for face in great))


def plain_pair(faces):
    """(points, inner) of all the faces that there are."""
    points = tuple(sorted(frozenset().union(*faces)))
    moved = {frozenset(points.index(point) for point in face) for face in faces}
    return points, plain_facets(moved)


def points_number(family):
    return len({point for facet in family for point in facet})


def families_of(n):
    """All families with just n points, for an n of at most 4."""
    sets = [part for part in all_sets(range(n)) if part]
    found = []

    def extend(chosen, at):
        if at == len(sets):
            if frozenset().union(*chosen) == frozenset(range(n)):
                found.append(tuple(sorted(tuple(sorted(part)) for part in chosen)))
            return
        extend(chosen, at + 1)
        if not any(part <= sets[at] or sets[at] <= part for part in chosen):
            extend(chosen + [sets[at]], at + 1)

    extend([], 0)
    return found


def some_family(chance, n, many, greatest):
    """A family of n points: some sets that a seeded chance picks, and the points that they left out."""
    faces = {frozenset({point}) for point in range(n)}
    for _ in range(many):
        size = chance.randint(1, min(n, greatest))
        faces.update(part for part in all_sets(chance.sample(range(n), size)) if part)
    return plain_facets(faces)


def many_families():
    """All families of at most 4 points, and many of 5 to 9 points."""
    families = [()]
    for n in range(1, 5):
        families.extend(families_of(n))
    chance = random.Random(1963)
    for n in range(5, 10):
        families.append(tuple((point,) for point in range(n)))
        families.append((tuple(range(n)),))
        families.append(tuple(combinations(range(n), n - 1)))
        families.append(tuple(combinations(range(n), n // 2)))
        for many in (1, 2, 3, 5, 8, 12):
            families.append(some_family(chance, n, many, 3))
            families.append(some_family(chance, n, many, n - 1))
    return families


def some_families():
    """A few families of each number of points, for tests that try much on each."""
    families = many_families()
    return [family for at, family in enumerate(families) if at < 12 or at % 7 == 0]


def wrong_families():
    """Many values that are no family."""
    wrong = list(NO_INTEGERS + (0, 1, -1, 10 ** 39, ((1,),), ((0, 1), (0,)), (tuple(range(10)),), [(0,)]))
    wrong.extend(spoiled(()))
    wrong.extend(spoiled(((0, 1), (2,))))
    return [thing for thing in wrong if not is_plain_family(thing)]


def plain_push(faces, i, j):
    """The faces behind a push, each looked at as it stands ahead of it."""
    moved = set()
    for face in faces:
        other = face - {j} | {i}
        moved.add(other if j in face and i not in face and other not in faces else face)
    return moved


def plain_order(one, other):
    """Below 0 if the one set stands ahead of the other one, of the same size, by their greatest points."""
    apart = set(one) ^ set(other)
    if not apart:
        return 0
    return 1 if max(apart) in one else -1


def plain_listing(points, size):
    """All sets of a size of the first points, in the order by greatest points."""
    return sorted(combinations(range(points), size), key=cmp_to_key(plain_order))


FIELDS = (0, 2, 3, 5, 7)
FOLDED = ((0, 1, 3), (0, 1, 4), (0, 2, 3), (0, 2, 5), (0, 4, 5),
          (1, 2, 4), (1, 2, 5), (1, 3, 5), (2, 3, 4), (3, 4, 5))
# Eight points, all pairs of them, and the triples whose sum leaves 0, 1 or 3 by 8: a hole over 3 alone.
OVER_3_ALONE = tuple(triple for triple in combinations(range(8), 3) if sum(triple) % 8 in (0, 1, 3))
# With a triple more, or a hollow one of four points, all fields but one see just the hole of a sphere.
OVER_3_TWICE = tuple(sorted(OVER_3_ALONE + ((0, 1, 6),)))
OVER_2_TWICE = tuple(sorted(FOLDED + ((0, 1, 6), (0, 3, 6), (1, 3, 6))))
# No minor of the small matrices of the tests is a multiple of so great a prime, so it stands for fractions.
GREAT_PRIME = 2 ** 61 - 1


def is_plain_number(p, thing):
    return type(thing) is int and thing != 0 and (p == 0 or 0 < thing < p)


def in_field(p, number):
    return number % p if p else number


def is_plain_chain(faces, p, size, thing):
    """Whether a value is a chain; the faces are told as a set of tuples."""
    if type(thing) is not tuple:
        return False
    for part in thing:
        if type(part) is not tuple or len(part) != 2 or not is_plain_set(part[0]) or part[0] not in faces:
            return False
        if len(part[0]) != size or not is_plain_number(p, part[1]):
            return False
    told = [part[0] for part in thing]
    return told == sorted(set(told))


def face_tuples(family):
    return {tuple(sorted(face)) for face in plain_faces(family)}


def plain_chain(p, sums):
    """The chain of a dict of sums."""
    return tuple(sorted((face, in_field(p, total)) for face, total in sums.items() if in_field(p, total)))


def plain_rim(p, chain):
    """The rim, summed up at each set that comes by leaving out a point."""
    sums = {}
    for face, number in chain:
        for at in range(len(face)):
            part = tuple(point for place, point in enumerate(face) if place != at)
            sums[part] = sums.get(part, 0) + (-1) ** at * number
    return plain_chain(p, sums)


def plain_sum(p, *chains):
    """The sum of some chains."""
    sums = {}
    for chain in chains:
        for face, number in chain:
            sums[face] = sums.get(face, 0) + number
    return plain_chain(p, sums)


def plain_times(p, by, chain):
    return plain_chain(p, {face: by * number for face, number in chain})


def plain_product(p, one, other):
    other = dict(other)
    return in_field(p, sum(number * other.get(face, 0) for face, number in one))


def plain_echelon(rows, p):
    """Rows of numbers by a prime made a staircase; the rows that are 0 are left out."""
    rows = [list(row) for row in rows]
    stairs = []
    for at in range(len(rows[0]) if rows else 0):
        found = next((row for row in rows if row[at] % p), None)
        if found is None:
            continue
        rows.remove(found)
        stairs.append(found)
        back = pow(found[at], -1, p)
        rows = [[(a - row[at] * back * b) % p for a, b in zip(row, found)] if row[at] % p else row for row in rows]
    return stairs


def plain_rank(chains, p):
    """The number of independent ones among some chains."""
    places = sorted({face for chain in chains for face, _ in chain})
    rows = [[dict(chain).get(face, 0) for face in places] for chain in chains]
    return len(plain_echelon(rows, p or GREAT_PRIME))


def plain_rims(faces, p, size):
    return [plain_rim(p, ((face, 1),)) for face in sorted(faces) if len(face) == size]


@lru_cache(maxsize=None)
def plain_holes(family, p):
    faces = face_tuples(family)
    greatest = max(map(len, faces))
    many = [sum(len(face) == size for face in faces) for size in range(greatest + 2)]
    ranks = [0] + [plain_rank(plain_rims(faces, p, size), p) for size in range(1, greatest + 2)]
    return tuple(many[size] - ranks[size] - ranks[size + 1] for size in range(1, greatest + 1))


def is_plain_product(thing):
    if type(thing) is not tuple or not all(is_plain_integer(letter, 0) for letter in thing):
        return False
    return list(thing) == sorted(thing)


def plain_divisors(row):
    """The products with one letter less that a product has, ascending."""
    return tuple(sorted({tuple(row[:at]) + tuple(row[at + 1:]) for at in range(len(row))}))


def is_plain_order(thing):
    if type(thing) is not tuple or not all(is_plain_product(part) for part in thing):
        return False
    told = set(thing)
    if list(thing) != sorted(told) or () not in told:
        return False
    return all(told.issuperset(plain_divisors(part)) for part in thing)


def all_orders(letters, greatest):
    """All orders of products of the first letters, of no degree above the greatest one."""
    rows = [row for degree in range(1, greatest + 1) for row in combinations_with_replacement(range(letters), degree)]
    found = [{()}]
    for row in rows:
        found.extend([order | {row} for order in found if order.issuperset(plain_divisors(row))])
    return [tuple(sorted(order)) for order in found]


def some_orders():
    """Orders of products of up to ten letters, with up to 200 products, that a seeded chance picks."""
    chance = random.Random(27)
    orders = []
    for _ in range(60):
        order = {()}
        letters = chance.sample(range(10), chance.randint(1, 6))
        for _ in range(chance.randint(1, 300)):
            row = tuple(sorted(chance.choice(sorted(order)) + (chance.choice(letters),)))
            if order.issuperset(plain_divisors(row)) and len(order) < 200 and len(row) < 17:
                order.add(row)
        orders.append(tuple(sorted(order)))
    return orders


def plain_flipped(family, face, other):
    """The family behind a flip, its points called by their places."""
    faces = plain_faces(family)
    left = {part for part in faces if not frozenset(face) <= part}
    left |= {part | set(other) for part in all_sets(face) if part != frozenset(face)}
    # What lies within the sets that come were faces before, or is now one together with them.
    left |= {part for whole in left for part in all_sets(whole)}
    points = sorted(frozenset().union(*left))
    return plain_facets({frozenset(points.index(point) for point in part) for part in left})


def plain_h(counts):
    f = (1,) + counts
    d = len(counts)
    return tuple(sum((-1) ** (j - i) * comb(d - i, j - i) * f[i] for i in range(j + 1)) for j in range(d + 1))


def plain_g(counts):
    h = plain_h(counts)
    return (1,) + tuple(h[i] - h[i - 1] for i in range(1, len(counts) // 2 + 1))


def plain_back(h):
    """The counts that have this row h."""
    d = len(h) - 1
    return tuple(sum(comb(d - i, j - i) * h[i] for i in range(j + 1)) for j in range(1, d + 1))


@lru_cache(maxsize=None)
def plain_link(family, face):
    """The link of a face, its points called by their places."""
    faces = plain_faces(family)
    return plain_pair({other for other in faces if not other & set(face) and other | set(face) in faces})[1]


def plain_skeleton(family, size):
    return plain_facets({face for face in plain_faces(family) if len(face) <= size})


@lru_cache(maxsize=None)
def plain_low_holes(family, p):
    """All (face, k) for which the link of a face has a hole of a dimension k below its greatest one."""
    found = []
    for face in sorted(face_tuples(family)):
        holes = plain_holes(plain_link(family, face), p)
        found.extend((face, k) for k in range(len(holes) - 1) if holes[k])
    return tuple(found)


@lru_cache(maxsize=None)
def plain_bad_faces(family, p):
    """All faces of fewer points than the greatest facets whose link has not just the hole of a sphere."""
    d = max(map(len, family))
    found = []
    for face in sorted(face_tuples(family)):
        left = d - len(face)
        link = plain_link(family, face)
        if left and (set(map(len, link)) != {left} or plain_holes(link, p) != (0,) * (left - 1) + (1,)):
            found.append(face)
    return tuple(found)


def plain_depth(family, p):
    """The greatest size of a skeleton that is sound; that those of lower sizes are is looked at, too."""
    sizes = range(1, max(map(len, family), default=0) + 1)
    sound = [not plain_low_holes(plain_skeleton(family, size), p) for size in sizes]
    assert sound == sorted(sound, reverse=True)
    return sum(sound)


def is_plain_colouring(family, r, thing):
    if type(thing) is not tuple or len(thing) != points_number(family):
        return False
    if not all(is_plain_integer(colour, 0) and colour < r for colour in thing):
        return False
    return all(thing[i] != thing[j] for facet in family for i, j in combinations(facet, 2))


def has_plain_colouring(family, r):
    """Whether some of all choices of colours is a colouring, for few points."""
    choices = product(range(r), repeat=points_number(family))
    return any(is_plain_colouring(family, r, colours) for colours in choices)


def error_of(call, *args, **named):
    """The error that a call raises, None if it raises none."""
    try:
        call(*args, **named)
    except Exception as error:
        return error
    return None


class Raises:
    """A mixin for test cases: which error a call raises, and what the error carries."""

    def assert_raises_with(self, kind, attribute, value, call, *args, **named):
        error = error_of(call, *args, **named)
        self.assertIs(type(error), kind, (call.__name__, args, named, error))
        carried = getattr(error, attribute)
        self.assertEqual(repr(carried), repr(value), (call.__name__, args, named))

    def assert_bad(self, kind, wrong, call, *args, **named):
        """The error carries the wrong value itself, and the arguments are as they were."""
        before = repr((args, named))
        error = error_of(call, *args, **named)
        self.assertIs(type(error), kind, (call.__name__, args, named, error))
        self.assertIs(error.thing, wrong)
        self.assertEqual(repr((args, named)), before)
