"""Checks of the kinds of values that callers pass."""

KEPT_WORDS = ("any", "closed", "end", "open", "to")
LETTERS = "abcdefghijklmnopqrstuvwxyz"
LONGEST_NAME = 8


def is_integer(x):
    """Tell whether x is an int that is not a bool."""
    return isinstance(x, int) and not isinstance(x, bool)


def is_integer_from(x, low, high):
    """Tell whether x is an integer from low to high."""
    return is_integer(x) and low <= x <= high


def is_flag(x):
    """Tell whether x is True or False."""
    return isinstance(x, bool)


def is_name(x):
    """Tell whether x is a name: some letters from a to z that are no kept word."""
    if not isinstance(x, str) or not 1 <= len(x) <= LONGEST_NAME:
        return False
    return x not in KEPT_WORDS and all([letter in LETTERS for letter in x])


def has_twins(items):
    """Tell whether two items of a list or a tuple are equal."""
    # Pair by pair, because the items may be of kinds that no set takes.
    for at, item in enumerate(items):
        for earlier in items[:at]:
            if item == earlier:
                return True
    return False
