"""Atoms, read as a house's text writes them in a condition of a field."""

from gatewright.errors import BadText, BadValue
from gatewright.words import is_path, number_in


def atom_read(field, folk, text):
    """The tuple of the atom that a text writes; BadText, whose line the reader of lines tells."""
    kind = field.plain()[1]
    if kind == "names":
        return name_read(folk, text)
    if kind == "tree":
        return path_read(field, text)
    if kind == "number":
        return from_read(field, text)
    if kind == "bits":
        return first_read(field, text)
    if kind == "marks":
        return marks_read(field, text)
    return clock_read(field, text)


def number_read(field, value):
    """The number of a value of a field; BadText of what is none."""
    try:
        return field.number_of(value)
    except BadValue:
        raise BadText() from None


def name_read(folk, text):
    """An atom of one of the people, or of a group."""
    if text not in folk.people() and text not in folk.groups():
        raise BadText()
    return ("name", text)


def path_read(field, text):
    """An atom of one path, or of all under one."""
    if not text.endswith("/"):
        number_read(field, text)
        return ("path", text)
    path = text[:-1]
    if path and not is_path(path):
        raise BadText()
    return ("under", path)


def from_read(field, text):
    """An atom of one number, or of those from a low to a high."""
    low_text, dots, high_text = text.partition("..")
    low = end_read(field, low_text)
    if not dots and low is not None:
        return ("from", low, low)
    high = end_read(field, high_text)
    if not dots or low is not None and high is not None and low >= high:
        raise BadText()
    return ("from", low, high)


def end_read(field, text):
    """A low or a high as figures write it, None of no figures."""
    if text == "":
        return None
    return number_read(field, number_in(text))


def first_read(field, text):
    """An atom of all bits, or of the first ones with a star behind."""
    if not text.endswith("*"):
        number_read(field, text)
        return ("first", text)
    bits = text[:-1]
    wide = field.plain()[2]
    if len(bits) >= wide:
        raise BadText()
    # Filled up, they are a value just where each of them is a bit.
    number_read(field, bits.ljust(wide, "0"))
    return ("first", bits)


def marks_read(field, text):
    """An atom of marks, each behind its sign."""
    # No blank stands in a word, so one can be put ahead of each sign.
    nothing, *words = text.replace("+", " +").replace("-", " -").split(" ")
    if nothing or not words:
        raise BadText()
    # Whatever their signs, the marks together are a value just where they are in order, each once.
    number_read(field, tuple([word[1:] for word in words]))
    has_all = tuple([word[1:] for word in words if word.startswith("+")])
    has_none = tuple([word[1:] for word in words if word.startswith("-")])
    return ("marks", has_all, has_none)


def clock_read(field, text):
    """An atom of one minute, or of those from a begin to an end."""
    begin_text, dots, end_text = text.partition("..")
    begin = number_read(field, begin_text)
    if not dots:
        return ("clock", begin, begin)
    end = number_read(field, end_text)
    if begin == end:
        raise BadText()
    return ("clock", begin, end)
