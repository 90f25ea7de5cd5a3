"""The checks of arguments that several modules share."""

from retinue.errors import BadPlace, BadSeen, OutOfRange, WrongKind


def check_place(many, place):
    """Raise BadPlace unless the place is one of 0 to many - 1."""
    if not 0 <= place < many:
        raise BadPlace(place)


def check_handful(many, handful):
    """Raise BadPlace with the first item that is not one of 0 to many - 1."""
    for place in handful:
        check_place(many, place)


def check_ring(beads):
    """Raise WrongKind if the standing is a row."""
    if not beads.ring:
        raise WrongKind(False)


def check_row(beads):
    """Raise WrongKind if the standing is a ring."""
    if beads.ring:
        raise WrongKind(True)


def check_index(index, count):
    """Raise OutOfRange unless the index is one of 0 to count - 1."""
    if not 0 <= index < count:
        raise OutOfRange(index, count)


def check_seen(lengths, seen):
    """Raise BadSeen unless seen is None or has one item for each length."""
    if seen is not None and len(seen) != len(lengths):
        raise BadSeen(len(seen))
