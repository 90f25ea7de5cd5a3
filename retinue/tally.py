"""The tally, which rises whenever waking changes something."""

from retinue.trains import reaches
from retinue.waking import changes_of


def tally_at(strengths, told):
    """Return the tally of these strengths, where told tells what each would become by waking."""
    tally = {}
    for strength, number in zip(strengths, told):
        step = -1 if number > strength else 1
        tally[strength] = tally.get(strength, 0) + step
    return [(value, tally[value]) for value in sorted(tally) if tally[value] != 0]


def tally_of(beads):
    """Return the list of the pairs (value, tally at the value), without the tallies 0."""
    return tally_at(beads.strengths, reaches(beads))


def compare_tallies(one, other):
    """Return -1, 0 or 1 if the first tally is less than, equal to or greater than the other one."""
    left = {value: number for value, number in one}
    right = {value: number for value, number in other}
    for value in sorted(set(list(left) + list(right))):
        difference = left.get(value, 0) - right.get(value, 0)
        if difference != 0:
            return -1 if difference < 0 else 1
    return 0


def touched(beads, handful):
    """Return the least strength that waking touches and by how many beads, or None."""
    changes = changes_of(beads, handful)
    if len(changes) == 0:
        return None
    # No strength here is less than the value, so a bead has it exactly if its lesser one is the value.
    lesser = [min(before, after) for _, before, after in changes]
    value = min(lesser)
    return value, lesser.count(value)
