"""The errors of all parts; each one carries its parameter as an attribute."""


class CountError(Exception):
    """The base class of all errors of the package."""


class BadNumber(CountError):
    """A value that is no number as asked for."""

    def __init__(self, thing):
        self.thing = thing


class BadSize(CountError):
    """A value that is no size, degree or dimension as asked for."""

    def __init__(self, thing):
        self.thing = thing


class BadCascade(CountError):
    """A value that is no cascade for the size."""

    def __init__(self, thing):
        self.thing = thing


class BadSet(CountError):
    """A value that is no set as asked for."""

    def __init__(self, thing):
        self.thing = thing


class BadSets(CountError):
    """A value that is no tuple of sets as asked for."""

    def __init__(self, thing):
        self.thing = thing


class BadFamily(CountError):
    """A value that is no family as asked for."""

    def __init__(self, thing):
        self.thing = thing


class BadFace(CountError):
    """A value that is no face as asked for."""

    def __init__(self, thing):
        self.thing = thing


class BadPoint(CountError):
    """A value that is no point or letter as asked for."""

    def __init__(self, thing):
        self.thing = thing


class BadNames(CountError):
    """A value that does not name each point once."""

    def __init__(self, thing):
        self.thing = thing


class BadField(CountError):
    """A value that is no field number."""

    def __init__(self, thing):
        self.thing = thing


class BadChain(CountError):
    """A value that is no chain or cycle as asked for."""

    def __init__(self, thing):
        self.thing = thing


class BadCounts(CountError):
    """A value that is no counts as asked for."""

    def __init__(self, thing):
        self.thing = thing


class BadHoles(CountError):
    """A value that is no holes as asked for."""

    def __init__(self, thing):
        self.thing = thing


class BadRow(CountError):
    """A value that is no row as asked for."""

    def __init__(self, thing):
        self.thing = thing


class BadProduct(CountError):
    """A value that is no product as asked for."""

    def __init__(self, thing):
        self.thing = thing


class BadOrder(CountError):
    """A value that is no order."""

    def __init__(self, thing):
        self.thing = thing


class BadColours(CountError):
    """A value that is no number of colours as asked for."""

    def __init__(self, thing):
        self.thing = thing


class BadAsk(CountError):
    """A value that is no ask as asked for."""

    def __init__(self, thing):
        self.thing = thing


class BadDeed(CountError):
    """A value that is no deed."""

    def __init__(self, thing):
        self.thing = thing


class BadText(CountError):
    """A text that cannot be read; at is the number of the wrong word, 0 if it is no text."""

    def __init__(self, at):
        self.at = at


class NotFit(CountError):
    """Rows that nothing fits, with a certificate against them."""

    def __init__(self, certificate):
        self.certificate = certificate


class NotSphere(CountError):
    """A family that is not round, with a certificate against it."""

    def __init__(self, certificate):
        self.certificate = certificate


class NoFlip(CountError):
    """A pair that is no flip of the family."""

    def __init__(self, thing):
        self.thing = thing


class TooGreat(CountError):
    """What is asked for would have too many points."""

    def __init__(self, points):
        self.points = points


class TooMany(CountError):
    """There are more answers than the most that were asked for."""

    def __init__(self, most):
        self.most = most


class NothingToUndo(CountError):
    """A workshop has no deed left to undo."""


class NothingToRedo(CountError):
    """A workshop has no undone deed left to do again."""
