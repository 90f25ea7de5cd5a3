"""What happens if all beads wake at once, again and again."""

from retinue.beads import Beads
from retinue.checks import check_place
from retinue.forest import depths_of
from retinue.waking import wake_all


def rounds_of(beads):
    """Return the list of the strengths at the start and after each round that changes something."""
    rows = [beads.strengths]
    now = beads
    after = wake_all(now)
    while after.strengths != now.strengths:
        rows.append(after.strengths)
        now = after
        after = wake_all(now)
    return rows


def rows_after(rows):
    """Return the strengths after round 1 and each later round, from what rounds_of returns."""
    # A standing at rest stands unchanged after round 1.
    return rows[1:] if len(rows) > 1 else rows


def last_change_in(rows, place):
    """Return the number of the last of these rounds in which the strength of the bead changes, or 0."""
    changing = [number for number in range(1, len(rows)) if rows[number][place] != rows[number - 1][place]]
    return max(changing, default=0)


def last_change(beads, place):
    """Return the number of the last round in which the strength of the bead changes, or 0."""
    check_place(len(beads), place)
    return last_change_in(rounds_of(beads), place)


def round_heads(beads):
    """Return for each round the ascending list of the heads after it: the beads in no other bead's span."""
    return [_heads_of(strengths, beads) for strengths in rows_after(rounds_of(beads))]


def _heads_of(strengths, beads):
    """Return the heads of the outcome that has these strengths and is like the standing otherwise."""
    outcome = Beads(strengths, beads.lengths, ring=beads.ring)
    return [place for place, depth in enumerate(depths_of(outcome)) if depth == 0]


def final_heads(beads):
    """Return the ascending list of the heads after the last round."""
    return round_heads(beads)[-1]
