"""Desks: journals under names, told what to do by lines."""

from retinue.ends import ends_of
from retinue.errors import BadLine, BadText, NameTaken, UnknownName
from retinue.journal import Journal, copy_of
from retinue.notation import read_beads, read_order, write_beads, write_order
from retinue.trains import leaders_of
from retinue.waking import at_rest

MOST_LETTERS = 12


class Desk:
    """Journals under names."""

    def __init__(self):
        self._journals = {}

    def tell(self, line):
        """Do what the line says and return the text of the answer."""
        words = line.split(" ")
        _check_form(words)
        verb, name = words[0], words[1]
        if verb == "new":
            return self._begin(name, _read_rest(read_beads, words))
        if verb == "wake":
            order = _read_rest(read_order, words)
            return str(self._known(name).perform(order))
        if verb == "drop":
            return self._drop(name)
        answer = ANSWERS[verb]
        return answer(self._known(name))

    def _known(self, name):
        """Return the journal under the name."""
        if name not in self._journals:
            raise UnknownName(name)
        return self._journals[name]

    def _begin(self, name, beads):
        """Begin a journal with the standing under a new name."""
        if name in self._journals:
            raise NameTaken(name)
        self._journals[name] = Journal(beads)
        return "ok"

    def _drop(self, name):
        """Remove the journal under the name."""
        self._known(name)
        del self._journals[name]
        return "ok"

    def names(self):
        """Return the ascending list of the names."""
        return sorted(self._journals)

    def journal(self, name):
        """Return a copy of the journal under the name."""
        return copy_of(self._known(name))

    def tell_all(self, lines):
        """Tell the lines one after another and return the list of their texts; an error undoes all of them."""
        # All is tried on a copy, so that an error leaves the desk as it was.
        trial = Desk()
        trial._journals = {name: copy_of(journal) for name, journal in self._journals.items()}
        texts = [trial.tell(line) for line in lines]
        self._journals = trial._journals
        return texts


def _check_form(words):
    """Raise BadLine unless the words have one of the forms, as far as they are not a standing or an order."""
    verb = words[0]
    if verb not in ANSWERS and verb not in ("new", "wake", "drop"):
        raise BadLine(0)
    if len(words) == 1 or not _is_name(words[1]):
        raise BadLine(1)
    if verb in ("new", "wake"):
        # An order of no handfuls has a text, but a line needs at least one.
        if len(words) == 2 or words[2] == "":
            raise BadLine(2)
    elif len(words) > 2:
        raise BadLine(2)


def _is_name(word):
    """Return whether the word has 1 to 12 letters from a to z."""
    return 1 <= len(word) <= MOST_LETTERS and all(["a" <= sign <= "z" for sign in word])


def _read_rest(reader, words):
    """Return what the reader reads from the words behind the name."""
    try:
        return reader(" ".join(words[2:]))
    except BadText as wrong:
        raise BadLine(wrong.word + 2) from None


def _round(journal):
    """Let all beads wake at once and tell how many changed."""
    return str(len(journal.wake(list(range(len(journal.now))))))


def _undo(journal):
    """Undo the last waking and tell how many beads changed."""
    return str(len(journal.undo()))


def _redo(journal):
    """Redo a waking and tell how many beads changed."""
    return str(len(journal.redo()))


def _show(journal):
    """Tell the present standing."""
    return write_beads(journal.now)


def _rest(journal):
    """Tell whether the present standing is at rest."""
    return "yes" if at_rest(journal.now) else "no"


def _heads(journal):
    """Tell the leaders of the present standing."""
    return write_order([leaders_of(journal.now)])


def _ends(journal):
    """Tell the cuttings that can be had from the present standing by single wakings."""
    return write_order(ends_of(journal.now))


ANSWERS = {"round": _round, "undo": _undo, "redo": _redo, "show": _show, "rest": _rest, "heads": _heads,
           "ends": _ends}
