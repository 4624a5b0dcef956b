"""Integers, limits, parts and notes as words of a text."""

from sceneskips.errors import InvalidText
from sceneskips.notes import Notes, in_order, is_name


def read_integer(word):
    """Return the integer that the word tells."""
    digits = word[1:] if word.startswith("-") else word
    if len(digits) == 0 or not all(["0" <= digit <= "9" for digit in digits]):
        raise InvalidText("this is not an integer")
    k = int(word)
    if str(k) != word:
        raise InvalidText("this integer is told otherwise")
    return k


def read_limit(word):
    """Return the low or the high that the word tells."""
    return None if word == "*" else read_integer(word)


def show_limit(k):
    """Return the word for a low or a high."""
    return "*" if k is None else str(k)


def _cut(word, sign):
    """Return what stands ahead of the sign and behind it."""
    first, found, rest = word.partition(sign)
    if found == "":
        raise InvalidText("a sign is missing")
    return first, rest


def read_limits(words):
    """Return the limits that the words tell."""
    limits = {}
    for word in words:
        name, both = _cut(word, "=")
        low, high = _cut(both, "..")
        limits[name] = (read_limit(low), read_limit(high))
    return limits


def show_limits(limits):
    """Return the words for the limits."""
    return [f"{name}={show_limit(limits[name][0])}..{show_limit(limits[name][1])}" for name in in_order(limits)]


def read_parts(words):
    """Return the parts that the words tell."""
    parts = {}
    for word in words:
        kind, sign = ("add", "+") if "+" in word else ("set", ":")
        name, k = _cut(word, sign)
        parts[name] = (kind, read_integer(k))
    return parts


def show_parts(parts):
    """Return the words for the parts."""
    signs = {"add": "+", "set": ":"}
    return [f"{name}{signs[parts[name][0]]}{parts[name][1]}" for name in in_order(parts)]


def read_notes(text):
    """Return the Notes that the text tells."""
    notes = Notes()
    if text != "-":
        for word in text.split(" "):
            name, k = _cut(word, "=")
            if not is_name(name):
                raise InvalidText("this is not a name")
            notes[name] = read_integer(k)
    if show_notes(notes) != text:
        raise InvalidText("these notes are told otherwise")
    return notes


def show_notes(notes):
    """Return the text of the Notes."""
    words = [f"{name}={k}" for name, k in notes.pairs()]
    return " ".join(words) if len(words) > 0 else "-"
