"""What integers, names and numbers in texts are (section 2 of the document)."""

LETTERS = "abcdefghijklmnopqrstuvwxyz"
FIGURES = "0123456789"
LONGEST_NAME = 8
LONGEST_NUMBER = 9


def is_integer(value):
    """Whether any value is an integer."""
    # To Python a bool is an int, to the document it is none.
    return isinstance(value, int) and not isinstance(value, bool)


def is_between(value, least, most):
    """Whether any value is an integer from least to most."""
    return is_integer(value) and least <= value <= most


def is_row(value, many, least, most):
    """Whether any value is a tuple of so many integers, each of them from least to most."""
    if not isinstance(value, tuple) or len(value) != many:
        return False
    return all([is_between(part, least, most) for part in value])


def is_ascending(values):
    """Whether each of these values, which can be compared, is less than the next one."""
    return all([one < other for one, other in zip(values, values[1:])])


def is_name(value):
    """Whether any value is a name."""
    if not isinstance(value, str) or not 1 <= len(value) <= LONGEST_NAME:
        return False
    return all([letter in LETTERS for letter in value])


def number_of(word):
    """The integer that a word of a text writes; None if it writes none."""
    if not 1 <= len(word) <= LONGEST_NUMBER or not all([figure in FIGURES for figure in word]):
        return None
    number = int(word)
    # Python writes no zeros ahead of a number.
    return number if str(number) == word else None
