"""How names, paths and whole numbers are written."""

LONGEST_NAME = 8
LONGEST_PATH = 3
MOST_FIGURES = 13


def is_name(thing):
    """Tells whether the thing is a text of 1 to 8 small letters."""
    if not isinstance(thing, str) or not 1 <= len(thing) <= LONGEST_NAME:
        return False
    return thing.isascii() and thing.isalpha() and thing.islower()


def is_path(text):
    """Tells whether a text is 1 to 3 names with / between."""
    names = text.split("/")
    return len(names) <= LONGEST_PATH and all([is_name(name) for name in names])


def number_in(text):
    """The whole number that a text writes by figures, None of a text that writes none."""
    if not 1 <= len(text) <= MOST_FIGURES or not text.isascii() or not text.isdigit():
        return None
    if text.startswith("0") and text != "0":
        return None
    return int(text)
