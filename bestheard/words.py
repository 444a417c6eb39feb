"""Words: names, options, numbers, and the names of cells that are made."""

from bestheard.errors import InvalidCount

LETTERS = "abcdefghijklmnopqrstuvwxyz"
LETTERS_AND_DIGITS = "abcdefghijklmnopqrstuvwxyz0123456789"
LONGEST = 8
MOST_NAMES = 2000


def is_name(value):
    """Tell whether any value is a name: 1 to 8 lowercase letters."""
    return _is_word(value, LETTERS)


def is_option(value):
    """Tell whether any value is an option: 1 to 8 lowercase letters and digits."""
    return _is_word(value, LETTERS_AND_DIGITS)


def _is_word(value, characters):
    if not isinstance(value, str):
        return False
    return 1 <= len(value) <= LONGEST and all([character in characters for character in value])


def is_integer(value):
    """Tell whether any value is a number; booleans are no numbers."""
    return isinstance(value, int) and not isinstance(value, bool)


def is_number(value, least, most):
    """Tell whether any value is a number from least to most."""
    return is_integer(value) and least <= value <= most


def cell_names(many):
    """Return the list of the first so many names in the sequence a, b, .., z, aa, ab and so on."""
    if not is_number(many, 0, MOST_NAMES):
        raise InvalidCount(many)
    return [cell_name(position) for position in range(many)]


def cell_name(position):
    """Return the name at a position of that sequence, however far on."""
    # There is no letter for zero: z is followed by aa. So each letter counts from 1, not from 0.
    name = ""
    left = position + 1
    while left > 0:
        left, letter = divmod(left - 1, len(LETTERS))
        name = LETTERS[letter] + name
    return name
