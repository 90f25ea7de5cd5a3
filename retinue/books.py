"""The books of the beads: what rounds make of each of them."""

from retinue.rounds import last_change_in, rounds_of, rows_after


def books_of(beads):
    """Return the list of the books of all places."""
    rows = rounds_of(beads)
    return [_book_in(rows, place) for place in range(len(beads))]


def _book_in(rows, place):
    """Return the strengths of the bead after round 1 up to the last of these rounds that changes it."""
    last = max(1, last_change_in(rows, place))
    return [row[place] for row in rows_after(rows)[:last]]
