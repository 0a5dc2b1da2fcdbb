"""Sets written as texts, and read from them."""

from basehouse.errors import NoSet
from basehouse.sets import set_of, things

LETTERS = "abcdefgh"
EMPTY = "-"


def shown(s):
    if s == 0:
        return EMPTY
    return "".join([LETTERS[thing] for thing in things(s)])


def read(text):
    s = set_of([thing for thing, letter in enumerate(LETTERS) if letter in text])
    # There is one way to write a set, so a text that is not that way is no set's.
    if shown(s) != text:
        raise NoSet(f"not a set: {text!r}")
    return s


def shown_all(sets):
    return " ".join([shown(s) for s in sets])


def read_all(text):
    # The empty text is no set at all, while splitting it would tell one empty word.
    if text == "":
        return []
    return [read(word) for word in text.split(" ")]
