"""Texts of SHELVES, LOCKS, WISHES and TELLINGS, and what texts tell."""

from lockstold.errors import BadText
from lockstold.locks import is_lock
from lockstold.shelves import is_shelf
from lockstold.tellings import is_row
from lockstold.wishes import is_wish
from lockstold.words import (lines_of, lock_in, number_in, release_in, release_word, row_in, row_words, states_in,
                             states_word, wish_in)


def shelf_text(shelf):
    lines = []
    for release, rules, first, last in shelf:
        lines.append(" ".join(["release", release_word(release), str(first), "-" if last is None else str(last)]))
        lines.extend(["let " + states_word(own) for own in rules])
    return "\n".join(lines)


def lock_text(lock):
    return " ".join(["lock"] + [release_word(own) for own in lock])


def wish_text(wish):
    return " ".join(["wish"] + [states_word(own) for own in wish])


def telling_text(telling):
    return "\n".join([" ".join(["row"] + row_words(row)) for row in telling])


def read_shelf(text):
    """The SHELF that has this text."""
    shelf = ()
    for at, line in enumerate(lines_of(text)):
        shelf = _with_line(shelf, line.split(" "))
        if not is_shelf(shelf):
            raise BadText(at)
    return shelf


def read_lock(text):
    """The LOCK that has this text."""
    lock = lock_in(_words_behind("lock", text))
    _check_only_line(text, is_lock(lock))
    return lock


def read_wish(text):
    """The WISH that has this text."""
    wish = wish_in(_words_behind("wish", text))
    _check_only_line(text, is_wish(wish))
    return wish


def read_telling(text):
    """The TELLING that has this text."""
    rows = []
    for at, line in enumerate(lines_of(text)):
        words = line.split(" ")
        row = row_in(words[1:])
        if words[0] != "row" or not is_row(row):
            raise BadText(at)
        rows.append(row)
    return tuple(rows)


def _words_behind(word, text):
    """The words behind the first one, which ought to be word, of the first line of text."""
    words = text.split("\n")[0].split(" ")
    if words[0] != word:
        raise BadText(0)
    return words[1:]


def _check_only_line(text, fit):
    """BadText if the first line of text is not fit, or not the only one."""
    if not fit:
        raise BadText(0)
    if len(lines_of(text)) > 1:
        raise BadText(1)


def _with_line(shelf, words):
    """shelf with what a line of these words adds to it, None if no line has such words there."""
    if len(words) == 4 and words[0] == "release":
        last = None if words[3] == "-" else number_in(words[3])
        return shelf + ((release_in(words[1]), (), number_in(words[2]), last),)
    if len(words) == 2 and words[0] == "let" and shelf != ():
        release, rules, first, last = shelf[-1]
        return shelf[:-1] + ((release, rules + (states_in(words[1]),), first, last),)
    return None
