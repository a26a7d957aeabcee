"""A desk: a Yard that is asked line by line, in words, and replies in words."""

from lockstold.checks import SHOPS
from lockstold.errors import BadText, CanNot, NoRow, NothingDone, TooMany
from lockstold.locks import is_lock
from lockstold.tellings import is_row
from lockstold.texts import shelf_text
from lockstold.words import FIGURES, answer_in, lines_of, number_in, row_in
from lockstold.yard import Yard

MOST_FIGURES = 6
# Requests of one word.
LONE = ("undo", "redo", "rows", "can", "out", "shelf")


def is_request(line):
    return _request_in(line) is not None


def replies(shop, text):
    """The replies of a new Yard to the lines of text."""
    requests, yard = _requests_in(text), Yard(shop)
    return [_reply(yard, own) for own in requests]


def last_yard(shop, text):
    """A new Yard behind all lines of text."""
    requests, yard = _requests_in(text), Yard(shop)
    for own in requests:
        _reply(yard, own)
    return yard


def _requests_in(text):
    found = []
    for at, line in enumerate(lines_of(text)):
        request = _request_in(line)
        if request is None:
            raise BadText(at)
        found.append(request)
    return found


def _request_in(line):
    """The EDIT that line asks for, or the tuple of another word and what it asks of; None if line is no request."""
    word, *rest = line.split(" ")
    if _has_long_number(line):
        return None
    if word in LONE and rest == []:
        return (word,)
    if word in ("tell", "can"):
        row = row_in(rest)
        return (word,) + row if is_row(row) else None
    if word == "shop":
        return (word, rest[0]) if len(rest) == 1 and rest[0] in SHOPS else None
    return _numbered_edit(word, rest)


def _has_long_number(line):
    """Whether more figures than a request may have for a number stand side by side in line."""
    many = 0
    for sign in line:
        many = many + 1 if sign in FIGURES else 0
        if many > MOST_FIGURES:
            return True
    return False


def _numbered_edit(word, rest):
    """The EDIT of a ROW that is told by its number, None if word and rest tell none."""
    if word == "drop" and len(rest) == 1:
        edit = (word, number_in(rest[0]))
    elif word == "shift" and len(rest) == 2:
        edit = (word, number_in(rest[0]), number_in(rest[1]))
    elif word == "mend" and rest != []:
        edit = (word, number_in(rest[0]), answer_in(rest[1:]))
    else:
        return None
    if -1 in edit or (word == "mend" and edit[2] is not None and not is_lock(edit[2])):
        return None
    return edit


def _reply(yard, request):
    """The reply of yard to request; what raises changes nothing."""
    try:
        return _answer_to(yard, request)
    except NoRow:
        return "refused NoRow"
    except NothingDone:
        return "refused NothingDone"
    except CanNot:
        return "refused CanNot"
    except TooMany:
        return "refused TooMany"


def _answer_to(yard, request):
    word = request[0]
    if word == "rows":
        return str(len(yard.telling()))
    if word == "out":
        return str(yard.rows_out())
    if word == "shelf":
        return shelf_text(yard.tight())
    if word == "can":
        return "yes" if _can(yard, request) else "no"
    if word == "undo":
        yard.undo()
    elif word == "redo":
        yard.redo()
    else:
        yard.do(request)
    return "done"


def _can(yard, request):
    """Whether some SHELF tells all, with the ROW of request, too, if it has one."""
    if len(request) == 1:
        return yard.can_be()
    _, day, wish, answer = request
    return yard.may_tell(day, wish, answer)
