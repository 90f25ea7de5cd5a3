"""Low and level standings, from which the ends are known."""


def is_low(beads):
    """Return whether no bead has a strength greater than its own length."""
    return all([strength <= length for strength, length in zip(beads.strengths, beads.lengths)])


def is_level(beads):
    """Return whether all strengths are equal."""
    return min(beads.strengths) == max(beads.strengths)
