"""Standings: beads in a ring or in a row."""

from retinue.checks import check_place, check_ring
from retinue.errors import BadBeads, WrongKind


class Beads:
    """A ring or a row of beads, each with a strength and a length; it never changes."""

    def __init__(self, strengths, lengths=None, *, ring=True):
        self.strengths = tuple(strengths)
        self.lengths = (1,) * len(strengths) if lengths is None else tuple(lengths)
        self.ring = ring
        _check_beads(self.strengths, self.lengths)

    def __len__(self):
        return len(self.strengths)

    def __iter__(self):
        return iter(self.strengths)

    def __eq__(self, other):
        return (isinstance(other, Beads) and self.ring == other.ring
                and self.lengths == other.lengths and self.strengths == other.strengths)

    def __add__(self, other):
        """Return the standing with the beads of the other one behind those of this one."""
        if self.ring != other.ring:
            raise WrongKind(other.ring)
        return Beads(self.strengths + other.strengths, self.lengths + other.lengths, ring=self.ring)

    def __mul__(self, other):
        """Return the standing with the beads repeated so many times."""
        return Beads(self.strengths * other, self.lengths * other, ring=self.ring)

    def total(self):
        """Return the sum of the lengths."""
        return sum(self.lengths)

    def greatest(self):
        """Return the greatest strength."""
        return max(self.strengths)

    def with_strength(self, place, strength):
        """Return the standing in which this bead has this strength and the others keep theirs."""
        check_place(len(self.strengths), place)
        # All other strengths are sound, so a BadBeads from here names this place.
        strengths = self.strengths[:place] + (strength,) + self.strengths[place + 1:]
        return Beads(strengths, self.lengths, ring=self.ring)

    def as_row(self, place):
        """Return the row of the beads of this ring that begins at the place."""
        check_ring(self)
        check_place(len(self.strengths), place)
        strengths = self.strengths[place:] + self.strengths[:place]
        lengths = self.lengths[place:] + self.lengths[:place]
        return Beads(strengths, lengths, ring=False)


def _check_beads(strengths, lengths):
    """Raise BadBeads unless the two tuples can be the strengths and lengths of a standing."""
    if len(strengths) == 0 or len(lengths) != len(strengths):
        raise BadBeads(-1)
    for place in range(len(strengths)):
        if strengths[place] < 0 or lengths[place] < 1:
            raise BadBeads(place)
