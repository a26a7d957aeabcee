"""The words of which texts and requests are made: written, and read.

What is read of a word that is not as told is something that no judge takes: a number below 0, a wrong tuple, or None
for a ROW. So whoever reads asks the judge of what the words ought to tell.
"""

FIGURES = "0123456789"


def lines_of(text):
    """The lines of text; none of "", and an empty one behind a line feed at the end."""
    return text.split("\n") if text != "" else []


def release_word(release):
    name, version = release
    return f"{name}:{version}"


def states_word(part):
    """The wish word, or the lot word, of a NAME and its VERSIONS or STATES."""
    name, states = part
    return f"{name}:" + ",".join([str(own) for own in states])


def row_words(row):
    """The words of a ROW behind the first one of its line."""
    day, wish, answer = row
    told = ["none"] if answer is None else [release_word(own) for own in answer]
    return [str(day)] + [states_word(own) for own in wish] + ["->"] + told


def number_in(word):
    """The number that word writes, -1 if it writes none."""
    if word == "" or not all([sign in FIGURES for sign in word]):
        return -1
    # 0 stands alone, and never ahead of other figures.
    return -1 if word[0] == "0" and word != "0" else int(word)


def release_in(word):
    name, _, told = word.partition(":")
    return (name, number_in(told))


def states_in(word):
    """The pair of a NAME and its VERSIONS or STATES that word tells."""
    name, _, told = word.partition(":")
    return (name, tuple([number_in(own) for own in told.split(",")]))


def lock_in(words):
    return tuple([release_in(word) for word in words])


def wish_in(words):
    return tuple([states_in(word) for word in words])


def answer_in(words):
    return None if words == ["none"] else lock_in(words)


def row_in(words):
    """The ROW that is told by the words behind the first one of its line."""
    if "->" not in words:
        return None
    at = words.index("->")
    return (number_in(words[0]), wish_in(words[1:at]), answer_in(words[at + 1:]))
