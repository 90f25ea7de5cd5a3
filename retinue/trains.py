"""Trains, reaches, stoppers, lords and leaders."""

from retinue.checks import check_place


def run_after(beads, place):
    """Return the list of the places of the run after the bead at the place."""
    after = list(range(place + 1, len(beads)))
    if beads.ring:
        return after + list(range(place))
    return after


def train_of(beads, place):
    """Return the list of the places in the train of the bead, in the order of the run."""
    check_place(len(beads), place)
    train = []
    for other in run_after(beads, place):
        if beads.strengths[other] >= beads.strengths[place]:
            break
        train.append(other)
    return train


def reach_of(beads, place):
    """Return the sum of the lengths of the bead and its train."""
    train = train_of(beads, place)
    return beads.lengths[place] + sum([beads.lengths[other] for other in train])


def stopper_of(beads, place):
    """Return the place at which the train of the bead ends, or None if nothing stops it."""
    train = train_of(beads, place)
    run = run_after(beads, place)
    if len(train) == len(run):
        return None
    return run[len(train)]


def reaches(beads):
    """Return the list of the reaches of all places."""
    return [reach_of(beads, place) for place in range(len(beads))]


def lords_of(beads):
    """Return the list of the places of the lords, with None for each leader."""
    return [_lord_of(beads, place) for place in range(len(beads))]


def _lord_of(beads, place):
    """Return the place of the nearest earlier bead that is stronger, or None.

    All beads between the two are at most as strong as the bead itself, so they
    do not stop the train of the stronger one before it has reached the bead.
    """
    earlier = list(reversed(range(place)))
    if beads.ring:
        earlier = earlier + list(reversed(range(place + 1, len(beads))))
    for other in earlier:
        if beads.strengths[other] > beads.strengths[place]:
            return other
    return None


def leaders_of(beads):
    """Return the ascending list of the places of the beads that are in no train."""
    return [place for place, lord in enumerate(lords_of(beads)) if lord is None]
