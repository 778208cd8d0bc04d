"""Notes: a web written as a text, and read from it."""

from feedweb.errors import FeedError, NoNote
from feedweb.needs import parts_asked, parts_of
from feedweb.web import Web, is_name

MOST_PARTS = 4
MOST_KNOTS = 24
MOST_DEPTH = 5
# How a need of parts begins, by the word ahead of its bracket. No word asks for more parts than a need may have, so
# no number of any length has to be worked out.
BEGINNINGS = {
    "any": ("any",),
    "all": ("all",),
    "1of": ("some", 1),
    "2of": ("some", 2),
    "3of": ("some", 3),
    "4of": ("some", 4),
}


def shown(web):
    return "\n".join([shown_kind(name, web.need_of(name)) for name in web.kinds()])


def shown_kind(name, need):
    written = shown_need(need)
    return f"{name}: {written}"


def shown_need(need):
    if need[0] == "sun":
        return "sun"
    if need[0] == "eats":
        return need[1]
    word = shown_word(need)
    parts = " ".join([shown_need(part) for part in parts_of(need)])
    return f"{word}({parts})"


def shown_word(need):
    if need[0] == "some":
        number = need[1]
        return f"{number}of"
    return need[0]


def read(text):
    web = Web()
    # The empty text has no line, but splitting it would tell one.
    lines = text.split("\n") if text != "" else []
    for line in lines:
        read_line(line, web)
    return web


def read_line(line, web):
    pieces = line.partition(": ")
    need = read_need(pieces[2], 1)
    if knots_of(need) > MOST_KNOTS:
        raise NoNote("a need of more than 24 knots")
    try:
        web.add(pieces[0], need)
    except FeedError as refusal:
        raise NoNote(f"no line of a note: {line!r}") from refusal


def read_need(text, depth):
    # Refused on the way down, so that no text leads deeper than a need may be.
    if depth > MOST_DEPTH:
        raise NoNote("a need deeper than 5")
    if text == "sun":
        return ("sun",)
    if is_name(text):
        return ("eats", text)
    pieces = text.partition("(")
    if pieces[0] not in BEGINNINGS or not pieces[2].endswith(")"):
        raise NoNote(f"no need: {text!r}")
    texts = split_parts(pieces[2][:-1])
    if len(texts) > MOST_PARTS:
        raise NoNote("a need of more than 4 parts")
    parts = [read_need(part, depth + 1) for part in texts]
    need = BEGINNINGS[pieces[0]] + (tuple(parts),)
    if parts_asked(need) > len(parts):
        raise NoNote(f"more parts asked than there are: {text!r}")
    return need


# Splits at the blanks that stand in no bracket.
def split_parts(text):
    parts = []
    unclosed = 0
    for piece in text.split(" "):
        if unclosed > 0:
            parts[-1] = parts[-1] + " " + piece
        else:
            parts.append(piece)
        unclosed = unclosed + piece.count("(") - piece.count(")")
    return parts


def knots_of(need):
    return 1 + sum([knots_of(part) for part in parts_of(need)])
