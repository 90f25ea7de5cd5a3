"""Starts from which rounds go on as long as the total allows."""

from retinue.beads import Beads
from retinue.fibonacci import fibonacci


def arc_word(number):
    """Return the word of arcs with this number: each is made of the two before it."""
    word, following = "0", "10"
    for _ in range(number):
        word, following = following, following + word
    return word


def sharp_start(number, *, ring=True, extra=0):
    """Return a plain standing in which exactly the rounds up to the number change something."""
    word = arc_word(number)
    strengths = _first_strengths(len(word) + extra, ring, extra) + _arc_strengths(word)
    return Beads(strengths, ring=ring)


def _first_strengths(total, ring, extra):
    """Return the strengths of the extra beads that stand before the arcs."""
    if ring and extra > 0:
        return [total] + [1] * (extra - 1)
    return [1] * extra


def arc_starts(word):
    """Return the ascending list of the places of the first beads of the arcs of the word."""
    # Only a 0 behind a 1 is the second bead of an arc.
    return [place for place in range(len(word)) if place == 0 or word[place - 1] != "1"]


def _arc_strengths(word):
    """Return the strengths of the beads of the arcs: 2 for the first bead of each arc, 1 for the others."""
    strengths = [1] * len(word)
    for place in arc_starts(word):
        strengths[place] = 2
    return strengths


def short_start(number):
    """Return a row of so many beads in which exactly the rounds up to the number change something."""
    lengths = [2] + [fibonacci(place) for place in range(2, number + 1)]
    return Beads([0] * number, lengths, ring=False)
