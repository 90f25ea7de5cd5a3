"""Lineages: what must have stood in a bead's way for it to change so late."""

from retinue.beads import Beads
from retinue.checks import check_place
from retinue.errors import NoLineage
from retinue.fibonacci import fibonacci
from retinue.rounds import last_change_in, rounds_of
from retinue.trains import stopper_of


def lineage_of(beads, place):
    """Return the list of the pairs (number, stopper) of the bead, from its last change down to round 2."""
    check_place(len(beads), place)
    rows = rounds_of(beads)
    last = last_change_in(rows, place)
    if last < 2:
        raise NoLineage(place)
    pairs = []
    for number in reversed(range(2, last + 1)):
        standing = Beads(rows[number - 2], beads.lengths, ring=beads.ring)
        pairs.append((number, stopper_of(standing, place)))
    return pairs


def least_total(number):
    """Return the least total of a standing in which the round with this number changes something."""
    return 1 if number == 1 else fibonacci(number + 2)


def most_rounds(total):
    """Return the greatest number of a round that changes something in some standing of this total."""
    number = 1
    while least_total(number + 1) <= total:
        number += 1
    return number
