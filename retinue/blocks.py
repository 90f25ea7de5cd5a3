"""Cuts of a row into blocks, and which of them a low or level row can end in."""

from retinue.arcs import is_ascending
from retinue.checks import check_row
from retinue.errors import BadCut, NoEnd
from retinue.starts import check_start, first_held, holds_of, lowering_order
from retinue.sweeps import wake_until_still
from retinue.waking import run_order


def _blocks_of(beads, cut):
    """Return for each head of the cut the list of the places of its block, the head first."""
    check_row(beads)
    if not is_ascending(cut, len(beads)) or cut[0] != 0:
        raise BadCut(tuple(cut))
    ends = list(cut[1:]) + [len(beads)]
    return [list(range(head, end)) for head, end in zip(cut, ends)]


def _length_of(beads, block):
    """Return the sum of the lengths of the block."""
    return sum([beads.lengths[place] for place in block])


def block_sums(beads, cut):
    """Return the list of the sums of the lengths of the blocks."""
    return [_length_of(beads, block) for block in _blocks_of(beads, cut)]


def row_fault(beads, cut):
    """Return None if some order leads to the cut, otherwise why none does."""
    blocks = _blocks_of(beads, cut)
    check_start(beads)
    holds = holds_of(beads)
    before = 0
    for block in blocks:
        place = first_held(beads.lengths, holds, block)
        if place is not None:
            return "blocked", block[0], place
        length = _length_of(beads, block)
        if length < before:
            return "falls", block[0]
        before = length
    return None


def check_row_end(beads, cut):
    """Raise the errors of row_fault, and NoEnd if no order leads to the cut."""
    reason = row_fault(beads, cut)
    if reason is not None:
        raise NoEnd(reason)


def row_plan(beads, cut):
    """Return an order of single wakings after which the heads have the sums of their blocks."""
    check_row_end(beads, cut)
    order = lowering_order(beads, _blocks_of(beads, cut))
    now, _ = run_order(beads, order)
    for head in _head_order(beads, cut):
        times, now = wake_until_still(now, head)
        order.extend([(head,)] * times)
    return order


def _head_order(beads, cut):
    """Return the heads in an order in which the next head always stops the one that wakes.

    A head that falls wakes before the next head falls, a head that rises wakes
    after the next head has risen. The sums never fall from left to right, so
    the heads that fall stand before those that rise.
    """
    pairs = list(zip(cut, block_sums(beads, cut)))
    falling = [head for head, length in pairs if length < beads.strengths[head]]
    rising = [head for head, length in pairs if length >= beads.strengths[head]]
    return falling + rising[::-1]


def forced_heads(beads):
    """Return the tuple of the places that are heads of every cut that can be had."""
    check_row(beads)
    check_start(beads)
    holds = holds_of(beads)
    heads = []
    place = 0
    while place is not None:
        heads.append(place)
        place = first_held(beads.lengths, holds, list(range(place, len(beads))))
    return tuple(heads)
