"""Webs as texts (point 27)."""

from bellcopies.errors import InvalidText, NotText
from bellcopies.webs import check_web


def behind_spaces(text, at):
    """The next place from here on at which no space stands."""
    while at < len(text) and text[at] == " ":
        at += 1
    return at


def behind_sign(text, at, sign):
    """The place behind this sign, which stands next."""
    at = behind_spaces(text, at)
    if at == len(text) or text[at] != sign:
        raise InvalidText(at)
    return at + 1


def read_number(text, at, most):
    """The pair of the number from 1 to the most that stands at this place, and the place behind it."""
    end = at
    while end < len(text) and text[end] in "0123456789":
        end += 1
    # The most has one digit: a longer number has a leading zero or is out of range.
    if end != at + 1 or not 1 <= int(text[at:end]) <= most:
        raise InvalidText(at)
    return int(text[at:end]), end


def read_arc(text, at, size, arcs):
    """The pair of the arc that stands next, none of these, and the place behind it."""
    source, at = read_number(text, behind_spaces(text, at), size)
    at = behind_spaces(text, behind_sign(text, at, ">"))
    taker, end = read_number(text, at, size)
    if taker == source or (source, taker) in arcs:
        raise InvalidText(at)
    return (source, taker), end


def write_web(web):
    """The text that names a web."""
    check_web(web)
    size, arcs = web
    if not arcs:
        return f"{size}"
    words = " , ".join([f"{source}>{taker}" for source, taker in arcs])
    return f"{size} : {words}"


def read_web(text):
    """The web that a text names."""
    if not isinstance(text, str):
        raise NotText("this is not a string")
    size, at = read_number(text, behind_spaces(text, 0), 6)
    at = behind_spaces(text, at)
    arcs = []
    sign = ":"
    while at < len(text):
        if len(arcs) == 12:
            raise InvalidText(at)
        arc, at = read_arc(text, behind_sign(text, at, sign), size, arcs)
        arcs.append(arc)
        at = behind_spaces(text, at)
        sign = ","
    return size, tuple(arcs)
