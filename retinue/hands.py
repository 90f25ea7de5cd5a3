"""Two hands that wipe marks in turn."""

from retinue.markends import mark_ends
from retinue.marks import wipe, wipers_of


def last_hand(marks):
    """Return the number of wipings modulo 2 if it is the same in every game, otherwise None."""
    # Each wiping removes one mark.
    wipings = [len(marks) - len(end) for end in mark_ends(marks)]
    odd = [number for number in wipings if number % 2 == 1]
    if len(odd) == 0:
        return 0
    return 1 if len(odd) == len(wipings) else None


def good_wipes(marks):
    """Return the ascending list of the places of the marks by whose wiping a hand makes sure to wipe last."""
    known = {}
    return [place for place in wipers_of(marks) if not _wins(wipe(marks, place), known)]


def _wins(marks, known):
    """Return whether the hand whose turn it is can make sure that it wipes last; known tells what was found."""
    if marks.places not in known:
        known[marks.places] = _has_good_wipe(marks, known)
    return known[marks.places]


def _has_good_wipe(marks, known):
    """Return whether some wiping leaves marks from which the other hand does not win."""
    for place in wipers_of(marks):
        if not _wins(wipe(marks, place), known):
            return True
    return False
