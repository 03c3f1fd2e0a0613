"""Texts of deeds, there and back (points 139 and 140)."""

from neveralone.errors import BadText
from neveralone.notation import are_number_words, format_row, parse_row, places_text

LEAST_WORDS = {"toggle": 3, "number": 3, "rename": 2, "keep": 3, "drop": 2}


def format_deed(deed):
    """Return the line of a deed."""
    word = deed[0]
    if word == "keep":
        return f"keep {deed[1]} {format_row(deed[2])}"
    if word == "toggle":
        return f"toggle {deed[1]} {places_text(deed[2])}"
    if word == "rename":
        return f"rename {places_text(deed[1])}"
    return f"{word} {places_text(deed[1:])}"


def parse_deed(line):
    """Return the deed of a line, or raise BadText for the line 1."""
    return read_deed(line, 1)


def read_deed(text, line):
    """Return the deed that the line with a number tells, or raise BadText."""
    words = text.split(" ")
    if not are_deed_words(words):
        raise BadText(line, "deed")
    word = words[0]
    asked = words[1:2] if word == "keep" else words[1:]
    if not are_number_words(asked):
        raise BadText(line, "number")
    numbers = tuple([int(part) for part in asked])
    if word == "keep":
        return ("keep", numbers[0], read_rooms(" ".join(words[2:]), line))
    if word == "toggle":
        return ("toggle", numbers[0], numbers[1:])
    if word == "rename":
        return ("rename", numbers)
    return (word,) + numbers


def are_deed_words(words):
    """Tell whether the first word is that of a deed and whether enough words, and not too many, follow it."""
    least = LEAST_WORDS.get(words[0])
    if least is None or len(words) < least:
        return False
    return len(words) == least or words[0] not in ("number", "drop")


def read_rooms(text, line):
    """Return the row of rooms in the rest of a line, or raise BadText."""
    try:
        return parse_row(text)
    except BadText:
        raise BadText(line, "row")
