"""What the tests share: small standings, and the words of the document as plain slow functions."""

from itertools import combinations, product

from retinue.beads import Beads
from retinue.marks import Marks

LENGTHS = {
    1: [(1,), (3,)],
    2: [(1, 1), (2, 1), (1, 3)],
    3: [(1, 1, 1), (2, 1, 1), (1, 2, 3)],
    4: [(1, 1, 1, 1), (1, 2, 1, 3), (3, 1, 1, 1)],
}


def standings(most=4, strengths=(0, 1, 2, 3), kinds=(True, False)):
    """Yield rings and rows of up to so many beads with these strengths."""
    for many in range(1, most + 1):
        for row in product(strengths, repeat=many):
            for lengths in LENGTHS[many]:
                for ring in kinds:
                    yield Beads(row, lengths, ring=ring)


def handfuls(many):
    """Yield all handfuls of so many places, as ascending tuples."""
    for chosen in product((False, True), repeat=many):
        yield tuple(place for place in range(many) if chosen[place])


def slow_run(beads, place):
    """The run after the bead: one step after the other until nothing or the bead itself comes."""
    run = []
    at = place
    while True:
        at += 1
        if at == len(beads.strengths):
            if not beads.ring:
                return run
            at = 0
        if at == place:
            return run
        run.append(at)


def slow_train(beads, place):
    """The longest beginning of the run in which every bead is weaker."""
    run = slow_run(beads, place)
    beginnings = [run[:k] for k in range(len(run) + 1)]
    return [b for b in beginnings if all(beads.strengths[q] < beads.strengths[place] for q in b)][-1]


def slow_reach(beads, place):
    return sum(beads.lengths[q] for q in [place] + slow_train(beads, place))


def slow_wake(beads, handful):
    """The strengths after the handful has woken."""
    return tuple(slow_reach(beads, p) if p in handful else s for p, s in enumerate(beads.strengths))


def slow_span(beads, place):
    """The span of the bead as a list of places, or None."""
    run = [place] + slow_run(beads, place)
    for many in range(1, len(run) + 1):
        if sum(beads.lengths[q] for q in run[:many]) == beads.strengths[place]:
            return run[:many]
    return None


def raised(test, kind, call, *args, **more):
    """Check that the call raises exactly this kind of error and return its attributes as a dict."""
    with test.assertRaises(kind) as caught:
        call(*args, **more)
    test.assertIs(caught.exception.__class__, kind)
    return vars(caught.exception)


def slow_search(beads, hand):
    """All strengths to which handfuls of at most so many beads can lead, those of the start too."""
    chosen = [handful for handful in handfuls(len(beads)) if 0 < len(handful) <= hand]
    seen, waiting = {beads.strengths}, [beads.strengths]
    while waiting:
        now = Beads(waiting.pop(), beads.lengths, ring=beads.ring)
        for handful in chosen:
            after = slow_wake(now, handful)
            if after not in seen:
                seen.add(after)
                waiting.append(after)
    return seen


def slow_leaders(beads):
    """The places of the beads that are in no train."""
    trains = [slow_train(beads, place) for place in range(len(beads))]
    return tuple(p for p in range(len(beads)) if not any(p in train for train in trains))


def slow_ends(beads, hand):
    """The tuples of leaders of all standings at rest to which handfuls of at most so many beads can lead."""
    found = set()
    for strengths in slow_search(beads, hand):
        now = Beads(strengths, beads.lengths, ring=beads.ring)
        if slow_wake(now, range(len(now))) == strengths:
            found.add(slow_leaders(now))
    return found


def slow_held(beads, place, before):
    """Whether the sum holds the bead back, by the words of the document."""
    if all(strength <= length for strength, length in zip(beads.strengths, beads.lengths)):
        return beads.strengths[place] >= before
    common = beads.strengths[0]
    return beads.lengths[place] >= common and before <= common


def starts_of(lengths, ring):
    """Yield the low standings and the level standings with these lengths, the latter of small strengths."""
    for strengths in product(*[range(length + 1) for length in lengths]):
        yield Beads(strengths, lengths, ring=ring)
    for strength in range(sum(lengths) + 2):
        if strength > min(lengths):
            yield Beads([strength] * len(lengths), lengths, ring=ring)


def small_starts(ring):
    """Yield low and level standings of many shapes, of up to 4 beads."""
    for many in range(1, 4):
        for lengths in product((1, 2, 3), repeat=many):
            yield from starts_of(lengths, ring)
    for lengths in ((1, 1, 1, 1), (1, 2, 1, 2), (2, 1, 1, 1), (1, 3, 1, 2), (2, 2, 2, 1)):
        yield from starts_of(lengths, ring)


def mixed(many, most, step=7):
    """A list of so many numbers from 0 to `most`, in no plain order."""
    return [(k * k * step + k * 3 + (k * k * k) // 5) % (most + 1) for k in range(many)]


def agrees(row, seen):
    """Whether the strengths are those that are seen."""
    return seen is None or all(item is None or item == strength for item, strength in zip(seen, row))


def sights(lengths, rows):
    """Yield several things that can be seen: of some of these rows, and of none."""
    many = len(lengths)
    yield None
    yield [None] * many
    for row in (rows[0], rows[len(rows) // 2], rows[-1]):
        for place in range(many):
            yield [row[p] if p == place else None for p in range(many)]
            yield tuple(row[p] if p >= place else None for p in range(many))
            yield [row[p] if p != place else None for p in range(many)]
    yield [sum(lengths) + 1] + [None] * (many - 1)
    yield [None] * (many - 1) + [0]
    yield [rows[0][0]] + [rows[-1][-1] + 1] * (many - 1)


def all_marks(sizes):
    """Yield all marks on rings of these sizes."""
    for size in sizes:
        for many in range(1, size + 1):
            for places in combinations(range(size), many):
                yield Marks(size, places)


def slow_gap(size, places, place):
    """One step after the other from the mark until the next mark comes."""
    steps = 1
    while (place + steps) % size not in places:
        steps += 1
    return steps


def slow_wipes(size, places):
    """A dict: for each mark that may wipe, the tuple of the places that are left then."""
    found = {}
    for place in places:
        gap = slow_gap(size, places, place)
        following = (place + gap) % size
        if len(places) > 1 and gap > slow_gap(size, places, following):
            found[place] = tuple(other for other in places if other != following)
    return found


def slow_mark_ends(size, places):
    """The tuples of places in which wipings can end."""
    seen, waiting, ends = {places}, [places], set()
    while waiting:
        now = waiting.pop()
        wipes = slow_wipes(size, now)
        if not wipes:
            ends.add(now)
        for left in wipes.values():
            if left not in seen:
                seen.add(left)
                waiting.append(left)
    return ends
