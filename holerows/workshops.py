"""Workshops, which keep a family under deeds that can be undone and done again."""

from holerows.builds import cone_of, hung_of, renamed, without
from holerows.ends import most_holes
from holerows.errors import (
    BadDeed,
    BadFace,
    BadSet,
    BadText,
    NothingToRedo,
    NothingToUndo,
    TooGreat,
)
from holerows.families import (
    check_family,
    counts_of,
    family_text,
    is_face_within,
    is_set,
    outermost,
    points_in,
    read_family,
)
from holerows.flips import flipped
from holerows.holes import holes_of
from holerows.pushes import pushed

MOST_SHOP_POINTS = 8
HEAD = "workshop"

# For each word of a deed the number of its items, the word among them.
DEEDS = {"put": 2, "take": 2, "cone": 1, "hang": 1, "push": 3, "name": 2, "flip": 3}


class Workshop:
    """A family, with the deeds that led to it and those that were undone."""

    def __init__(self, family):
        check_family(family)
        self._family = family
        # Each deed stands beside the family to which its undoing, or its doing again, leads.
        self._done = []
        self._undone = []

    def __eq__(self, other):
        return isinstance(other, Workshop) and self._family == other._family

    def __str__(self):
        return f"{HEAD} {family_text(self._family)}"

    @classmethod
    def read(cls, text):
        """A workshop without deeds that has this text."""
        if not isinstance(text, str):
            raise BadText(0)
        head, _, rest = text.partition(" ")
        if head != HEAD:
            raise BadText(1)
        try:
            family = read_family(rest)
        except BadText as error:
            raise BadText(error.at + 1)
        return cls(family)

    def family(self):
        """The family that the workshop holds."""
        return self._family

    def deeds(self):
        """The tuple of the deeds done and not undone."""
        return tuple([deed for deed, _ in self._done])

    def copy(self):
        """An equal workshop with the same deeds, done and undone, that goes on by itself."""
        other = Workshop(self._family)
        other._done = list(self._done)
        other._undone = list(self._undone)
        return other

    def do(self, deed):
        """Does a deed."""
        behind = family_behind(self._family, deed)
        self._done.append((deed, self._family))
        self._undone = []
        self._family = behind

    def undo(self):
        """Undoes the last deed."""
        if len(self._done) == 0:
            raise NothingToUndo()
        deed, ahead = self._done.pop()
        self._undone.append((deed, self._family))
        self._family = ahead

    def redo(self):
        """Does the deed that was undone last again."""
        if len(self._undone) == 0:
            raise NothingToRedo()
        deed, behind = self._undone.pop()
        self._done.append((deed, self._family))
        self._family = behind

    def counts(self):
        """The counts of the family."""
        return counts_of(self._family)

    def holes(self, p):
        """The holes of the family over p."""
        return holes_of(self._family, p)

    def is_most(self):
        """Whether the family has over 2 as many holes of each dimension as its counts let."""
        # Counts without integers have no tuple of most holes, and there is nothing to ask.
        if len(self._family) == 0:
            return True
        return self.holes(2) == most_holes(self.counts())


def family_behind(family, deed):
    """The family that comes of a deed."""
    check_deed(deed)
    word = deed[0]
    if word == "put":
        return family_with(family, deed[1])
    if word == "take":
        return family_without(family, deed[1])
    if word == "cone":
        check_room(family, 1)
        return cone_of(family)
    if word == "hang":
        check_room(family, 2)
        return hung_of(family)
    if word == "push":
        return pushed(family, deed[1], deed[2])
    if word == "name":
        return renamed(family, deed[1])
    return flipped(family, deed[1], deed[2])


def check_deed(deed):
    """Raises an error for any value that is no word of a deed with as many items as it asks for."""
    if not isinstance(deed, tuple) or len(deed) == 0 or not isinstance(deed[0], str):
        raise BadDeed(deed)
    if deed[0] not in DEEDS or len(deed) != DEEDS[deed[0]]:
        raise BadDeed(deed)


def check_room(family, more):
    """Raises an error if a family with so many points more has too many of them."""
    many = len(points_in(family)) + more
    if many > MOST_SHOP_POINTS:
        raise TooGreat(many)


def family_with(family, points):
    """The family with a set and all sets within it as faces; it may bring one new point."""
    many = len(points_in(family))
    if not is_set(points) or len(points) == 0 or points[-1] > many:
        raise BadSet(points)
    if points[-1] == many:
        check_room(family, 1)
    return outermost(family + (points,))


def family_without(family, face):
    """What is left of a family without a face of two points or more, so that all points stay."""
    if not is_face_within(family, face) or len(face) < 2:
        raise BadFace(face)
    _, inner = without(family, face)
    return inner
