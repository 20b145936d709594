"""Boards: sheets by names, changed by deeds that can be undone."""

from pegwishes.deeds import done
from pegwishes.errors import Known, NoDeed, NoSheet
from pegwishes.sheets import Sheet


class Board:
    """A board; the dicts of its sheets are never changed, so that boards may share them."""

    def __init__(self):
        # The sheets by names: ahead of all deeds, then behind each that is done.
        self._states = [{}]
        self._undone = []
        self._log = []
        self._depth = 0

    def new(self, name):
        """A bare sheet comes."""
        self._keep(self._step(self._states[-1], ("new", name)))

    def drop(self, name):
        """A sheet goes."""
        self._keep(self._step(self._states[-1], ("drop", name)))

    def copy(self, name, other):
        """What a name keeps comes by another name, too."""
        self._keep(self._step(self._states[-1], ("copy", name, other)))

    def put(self, name, deed):
        """A deed is done to a sheet."""
        self._keep(self._step(self._states[-1], ("put", name, deed)))

    def do(self, deeds):
        """Deeds are done one by one, as one deed."""
        self._begin("do")
        try:
            sheets = self._states[-1]
            for deed in deeds:
                sheets = self._step(sheets, deed)
            self._keep(sheets)
        finally:
            self._depth -= 1
            self._log.append(("out", "do"))
        return len(deeds)

    def undo(self):
        """The last deed that is done is as if it had not been; whether there was one."""
        self._begin("undo")
        found = len(self._states) > 1
        if found:
            self._undone.append(self._states.pop())
        self._end("undo")
        return found

    def redo(self):
        """The last undone deed is done again; whether there was one."""
        self._begin("redo")
        found = len(self._undone) > 0
        if found:
            self._states.append(self._undone.pop())
        self._end("redo")
        return found

    def names(self):
        """The names of all sheets, rising."""
        return sorted(self._states[-1])

    def sheet(self, name):
        """The sheet that a name keeps."""
        return _kept(self._states[-1], name)

    def deeds(self):
        """How many deeds can be undone one by one."""
        return len(self._states) - 1

    def as_of(self, many):
        """A board as this one was behind its first so many deeds."""
        if many < 0 or many > self.deeds():
            raise NoDeed(many)
        board = Board()
        board._states = self._states[:many + 1]
        return board

    def twin(self):
        """A board as this one, with all its deeds."""
        return self.as_of(self.deeds())

    def log(self):
        """The pairs ("in", word) and ("out", word) of all deeds, as they began and ended."""
        return list(self._log)

    def is_open(self):
        """Whether a deed is at work."""
        return self._depth > 0

    def __len__(self):
        return len(self._states[-1])

    def __eq__(self, other):
        if not isinstance(other, Board):
            return False
        return self._states[-1] == other._states[-1]

    def __repr__(self):
        return f"Board({len(self._states[-1])})"

    def _begin(self, word):
        """A deed is at work from here on."""
        self._depth += 1
        self._log.append(("in", word))

    def _end(self, word):
        """A deed is at work no more."""
        self._depth -= 1
        self._log.append(("out", word))

    def _step(self, sheets, deed):
        """The sheets behind a deed, which is logged but not kept."""
        word, *things = deed
        self._begin(word)
        try:
            action = ACTIONS[word]
            return action(sheets, *things)
        finally:
            self._depth -= 1
            self._log.append(("out", word))

    def _keep(self, sheets):
        """A deed is done, and these are the sheets behind it."""
        self._states.append(sheets)
        self._undone.clear()


def _kept(sheets, name):
    """The sheet that a name keeps."""
    if name not in sheets:
        raise NoSheet(name)
    return sheets[name]


def _check_free(sheets, name):
    """Refuse a name that keeps a sheet."""
    if name in sheets:
        raise Known(name)


def _with_new(sheets, name):
    """The sheets and a bare one."""
    _check_free(sheets, name)
    return {**sheets, name: Sheet()}


def _without(sheets, name):
    """The sheets but one."""
    _kept(sheets, name)
    return {held: sheet for held, sheet in sheets.items() if held != name}


def _with_copy(sheets, name, other):
    """The sheets and one of them by another name."""
    sheet = _kept(sheets, name)
    _check_free(sheets, other)
    return {**sheets, other: sheet}


def _with_deed(sheets, name, deed):
    """The sheets, one of them behind a deed."""
    return {**sheets, name: done(_kept(sheets, name), deed)}


ACTIONS = {
    "new": _with_new,
    "drop": _without,
    "copy": _with_copy,
    "put": _with_deed,
}
