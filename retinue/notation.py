"""Standings and orders written as texts."""

from retinue.beads import Beads
from retinue.errors import BadText

MOST_DIGITS = 15


def write_beads(beads):
    """Return the text of the standing."""
    words = ["ring" if beads.ring else "row"]
    for strength, length in zip(beads.strengths, beads.lengths):
        words.append(str(strength) if length == 1 else f"{strength}*{length}")
    return " ".join(words)


def read_beads(text):
    """Return the standing that is written as this text."""
    words = text.split(" ")
    if words[0] not in ("ring", "row"):
        raise BadText(0)
    if len(words) == 1:
        raise BadText(1)
    strengths = []
    lengths = []
    for index in range(1, len(words)):
        bead = _read_bead(words[index])
        if bead is None:
            raise BadText(index)
        strengths.append(bead[0])
        lengths.append(bead[1])
    return Beads(strengths, lengths, ring=words[0] == "ring")


def _read_bead(word):
    """Return the pair of the strength and the length that the word tells, or None if it is wrong."""
    strength, sign, length = word.partition("*")
    if not _is_number(strength):
        return None
    if sign == "":
        return int(strength), 1
    # A length of 1 is not written, and there is no length 0.
    if not _is_number(length) or int(length) < 2:
        return None
    return int(strength), int(length)


def _is_number(word):
    """Return whether the word is a number as it is written here."""
    if not word.isdigit() or len(word) > MOST_DIGITS:
        return False
    return word == "0" or not word.startswith("0")


def write_order(order):
    """Return the text of the order."""
    return " ".join([_write_handful(handful) for handful in order])


def _write_handful(handful):
    """Return the word of the handful."""
    if len(handful) == 0:
        return "-"
    return ",".join([str(place) for place in sorted(set(handful))])


def read_order(text):
    """Return the order that is written as this text, as a list of tuples."""
    if text == "":
        return []
    order = []
    for index, word in enumerate(text.split(" ")):
        handful = _read_handful(word)
        if handful is None:
            raise BadText(index)
        order.append(handful)
    return order


def _read_handful(word):
    """Return the tuple of the places that the word tells, or None if it is wrong."""
    if word == "-":
        return ()
    numbers = word.split(",")
    if not all([_is_number(number) for number in numbers]):
        return None
    places = tuple([int(number) for number in numbers])
    # Places that repeat or do not ascend are written in another way.
    return places if _write_handful(places) == word else None
