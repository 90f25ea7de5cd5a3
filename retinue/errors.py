"""All errors that the program raises.

Each error is created with its attributes by position.
"""


class RetinueError(ValueError):
    """The base class of all errors that the program raises."""


class BadBeads(RetinueError):
    """No bead (place is -1), or a negative strength or too small a length at the place."""

    def __init__(self, place):
        self.place = place


class BadPlace(RetinueError):
    """There is no such place."""

    def __init__(self, place):
        self.place = place


class WrongKind(RetinueError):
    """A ring where a row is asked (ring is True), or a row where a ring is (False)."""

    def __init__(self, ring):
        self.ring = ring


class NotOutcome(RetinueError):
    """No round leads to the standing; the places are those of its fault."""

    def __init__(self, first, second):
        self.first = first
        self.second = second


class BadLog(RetinueError):
    """The entry of a log does not fit the standing."""

    def __init__(self, index):
        self.index = index


class BadLook(RetinueError):
    """The look of the being is wrong (being is -1 if the web as a whole is)."""

    def __init__(self, being):
        self.being = being


class BadCut(RetinueError):
    """The places are not such a tuple of heads as is asked."""

    def __init__(self, cut):
        self.cut = cut


class NotAtRest(RetinueError):
    """The bead at the place is restless."""

    def __init__(self, place):
        self.place = place


class NotSettled(RetinueError):
    """The ring is not settled."""


class WrongStart(RetinueError):
    """The standing is neither low nor level."""


class NoEnd(RetinueError):
    """The end that is asked for cannot be had; the reason is a tuple."""

    def __init__(self, reason):
        self.reason = reason


class NotTall(RetinueError):
    """The greatest strength of the ring is less than its total."""

    def __init__(self, greatest, total):
        self.greatest = greatest
        self.total = total


class OutOfRange(RetinueError):
    """Of so many items none has this index."""

    def __init__(self, index, count):
        self.index = index
        self.count = count


class NoLineage(RetinueError):
    """The bead changes in no round after the first."""

    def __init__(self, place):
        self.place = place


class BadSeen(RetinueError):
    """The number of seen items is not the number of lengths."""

    def __init__(self, size):
        self.size = size


class BadOrder(RetinueError):
    """The item of an order of places is wrong or missing."""

    def __init__(self, index):
        self.index = index


class NoOrder(RetinueError):
    """No order in which each bead wakes once leads to the ring."""


class BadMarks(RetinueError):
    """No mark (place is -1), or a wrong or repeated place of a mark."""

    def __init__(self, place):
        self.place = place


class CannotWipe(RetinueError):
    """There is no mark at the place, or it may not wipe."""

    def __init__(self, place):
        self.place = place


class BadText(RetinueError):
    """The word with this index is not written as it should be."""

    def __init__(self, word):
        self.word = word


class NothingToUndo(RetinueError):
    """No entry of the journal stands."""


class NothingToRedo(RetinueError):
    """No entry of the journal was undone."""


class BadLine(RetinueError):
    """From the word with this index on the line has no known form."""

    def __init__(self, word):
        self.word = word


class UnknownName(RetinueError):
    """There is no journal under the name."""

    def __init__(self, name):
        self.name = name


class NameTaken(RetinueError):
    """There already is a journal under the name."""

    def __init__(self, name):
        self.name = name


class Locked(NoEnd):
    """Other leaders than the heads of the locked ring cannot be had."""

    def __init__(self, heads):
        super().__init__(("locked", heads))
        self.heads = heads


class CannotLead(NoEnd):
    """The bead at the place is too weak to become the only leader."""

    def __init__(self, place):
        super().__init__(("weak", place))
        self.place = place
