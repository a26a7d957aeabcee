"""A Yard: a TELLING and a SHOP that EDITS change, taken back and put back in their turn."""

from lockstold.changes import changed
from lockstold.errors import NothingDone
from lockstold.liars import fewest_out
from lockstold.loom import can_be_told
from lockstold.plain import frozen
from lockstold.told import tight_shelf
from lockstold.tomorrow import can_answer

# The word of the CHANGE that an EDIT of a numbered ROW is.
CHANGES = {"drop": "back", "shift": "shift", "mend": "other"}


class Yard:
    """What is held behind a line of EDITS, and what was undone of them."""

    def __init__(self, shop):
        self._first = shop
        self._line = []
        self._undone = []
        # The pair (telling, shop) ahead of each EDIT of the line, and behind the last one.
        self._held = [((), shop)]

    def do(self, edit):
        """Does edit behind the line; what was undone is dropped."""
        self._add(frozen(edit))
        self._undone = []

    def undo(self):
        """Takes back the last EDIT of the line, and returns it."""
        if self._line == []:
            raise NothingDone()
        self._held.pop()
        edit = self._line.pop()
        self._undone.append(edit)
        return edit

    def redo(self):
        """Puts back the EDIT that was undone last, and returns it."""
        if self._undone == []:
            raise NothingDone()
        edit = self._undone.pop()
        self._add(edit)
        return edit

    def twin(self):
        """A Yard of its own with the same first SHOP and line."""
        other = Yard(self._first)
        for edit in self._line:
            other.do(edit)
        return other

    def edits(self):
        """The EDITS of the line."""
        return list(self._line)

    def telling(self):
        return self._held[-1][0]

    def shop(self):
        return self._held[-1][1]

    def can_be(self):
        """Whether some SHELF of the SHOP tells the TELLING."""
        return can_be_told(self.telling(), self.shop())

    def tight(self):
        """The TIGHT SHELF."""
        return tight_shelf(self.telling(), self.shop())

    def rows_out(self):
        """How many ROWS at the fewest must be left out for some SHELF to tell the others."""
        return fewest_out(self.telling(), self.shop())

    def may_tell(self, day, wish, answer):
        """Whether some SHELF tells the TELLING and this ROW, too."""
        return can_answer(self.telling(), self.shop(), day, wish, answer)

    def _add(self, edit):
        self._held.append(_edited(self._held[-1], edit))
        self._line.append(edit)

    def __len__(self):
        return len(self._line)

    def __eq__(self, other):
        return isinstance(other, Yard) and self._first == other._first and self._line == other._line


def _edited(held, edit):
    """The pair (telling, shop) behind edit."""
    telling, shop = held
    word, told = edit[0], edit[1:]
    if word == "shop":
        return (telling, told[0])
    if word == "tell":
        return (telling + (told,), shop)
    return (changed(telling, (CHANGES[word],) + told), shop)
