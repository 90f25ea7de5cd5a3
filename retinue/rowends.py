"""The ends of a low or level row, counted and numbered."""

from retinue.arcs import offsets_of
from retinue.blocks import check_row_end
from retinue.checks import check_index, check_row
from retinue.choices import choice_at
from retinue.starts import check_start, first_held, holds_of


def _block_stops(beads):
    """Return for each place the first bead that no block with this head contains, or the end of the row."""
    many = len(beads)
    holds = holds_of(beads)
    held = [first_held(beads.lengths, holds, list(range(head, many))) for head in range(many)]
    return [many if place is None else place for place in held]


def _block_ends(beads):
    """Return where blocks can end on the way to an end of the row.

    The dict gives, for each pair (before, head), the list of the places where
    the block of the head can end behind a block that begins at before. At the
    beginning of the row, both are 0. The end of the row, which makes a cut
    that is the beginning of longer ones, comes first, the others ascend.
    """
    many = len(beads)
    offsets = offsets_of(beads.lengths) + [beads.total()]
    stops = _block_stops(beads)
    found = {(before, many): [] for before in range(many)}
    for head in reversed(range(many)):
        # What is left behind a block must have an end, too.
        good = [end for end in range(head + 1, stops[head] + 1)
                if end == many or len(found[(head, end)]) > 0]
        ends = [end for end in good if end == many] + [end for end in good if end < many]
        for before in range(max(head, 1)):
            least = offsets[head] - offsets[before]
            found[(before, head)] = [end for end in ends if offsets[end] - offsets[head] >= least]
    return found


def _checked_ends(beads):
    """Return what _block_ends returns, for a low or level row."""
    check_row(beads)
    check_start(beads)
    return _block_ends(beads)


def _counts_of(block_ends, many):
    """Return for each pair (before, head) the number of ends of the rest of the row."""
    counts = {(before, many): 1 for before in range(many)}
    for head in reversed(range(many)):
        for before in range(max(head, 1)):
            counts[(before, head)] = sum([counts[(head, end)] for end in block_ends[(before, head)]])
    return counts


def count_row_ends(beads):
    """Return the number of the ends of the row."""
    block_ends = _checked_ends(beads)
    return _counts_of(block_ends, len(beads))[(0, 0)]


def row_end_at(beads, index):
    """Return the end of the row at this index."""
    block_ends = _checked_ends(beads)
    counts = _counts_of(block_ends, len(beads))
    check_index(index, counts[(0, 0)])
    heads = []
    before = head = 0
    left = index
    while head < len(beads):
        heads.append(head)
        numbers = [counts[(head, end)] for end in block_ends[(before, head)]]
        choice, left = choice_at(numbers, left)
        before, head = head, block_ends[(before, head)][choice]
    return tuple(heads)


def row_end_rank(beads, cut):
    """Return the index of the end of the row."""
    check_row_end(beads, cut)
    many = len(beads)
    block_ends = _block_ends(beads)
    counts = _counts_of(block_ends, many)
    rank = 0
    before = 0
    for head, own_end in zip(cut, list(cut[1:]) + [many]):
        ends = block_ends[(before, head)]
        rank += sum([counts[(head, end)] for end in ends[:ends.index(own_end)]])
        before = head
    return rank


def most_leaders(beads):
    """Return the greatest number of heads of an end of the row."""
    block_ends = _checked_ends(beads)
    many = len(beads)
    most = {(before, many): 0 for before in range(many)}
    for head in reversed(range(many)):
        for before in range(max(head, 1)):
            rest = [most[(head, end)] for end in block_ends[(before, head)]]
            # Where nothing can follow, the number does not matter: no list names this pair.
            most[(before, head)] = 1 + max(rest, default=0)
    return most[(0, 0)]
