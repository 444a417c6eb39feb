"""The shapes of the parts of a rulebook: which values are fields, ties and kinds, and which are values of it."""

from bestheard.cases import MOST_ITEMS, NEXT, SIGNS
from bestheard.words import is_name, is_option

LEAST_OPTIONS = 2
MOST_OPTIONS = 6
MOST_FIELDS = 3
MOST_VALUES = 24
MOST_CASES = 8
MOST_TIES = 4
MOST_KINDS = 3
DIRECTIONS = ("+", "-")


def field_fits(before, field):
    """Tell whether any value is a field that may stand in a rulebook behind these fields."""
    if not _is_tuple(field, 2, 2) or not name_fits(before, field[0], MOST_FIELDS) or not _are_options(field[1]):
        return False
    return len(values_of([*before, field])) <= MOST_VALUES


def tie_fits(fields, before, tie):
    """Tell whether any value is a tie that may stand in a rulebook behind these ties."""
    return _is_tuple(tie, 2, 2) and name_fits(before, tie[0], MOST_TIES) and is_program(fields, tie[1])


def kind_fits(fields, before, kind):
    """Tell whether any value is a kind that may stand in a rulebook behind these kinds."""
    if not _is_tuple(kind, 4, 4):
        return False
    name, keys, taking, birth = kind
    if not name_fits(before, name, MOST_KINDS) or not _are_keys(fields, keys):
        return False
    return (taking is None or is_program(fields, taking)) and is_holding(fields, birth)


def name_fits(before, name, most):
    """Tell whether any value is a name that none of the items before has, and whether one more item may stand."""
    return len(before) < most and is_name(name) and name not in names_of(before)


def names_of(items):
    """Return the list of the names of fields, ties or kinds."""
    return [item[0] for item in items]


def is_program(fields, value):
    """Tell whether any value is a program for these fields."""
    return _is_tuple(value, 1, MOST_CASES) and all([is_case(fields, case) for case in value])


def is_case(fields, value):
    """Tell whether any value is a case for these fields."""
    if not _is_tuple(value, 2, 2):
        return False
    tests, steps = value
    if not _is_tuple(tests, 0, MOST_ITEMS) or not all([_is_test(fields, test) for test in tests]):
        return False
    return steps is None or (_is_tuple(steps, 0, MOST_ITEMS) and all([_is_step(fields, step) for step in steps]))


def is_holding(fields, value):
    """Tell whether any value is a holding: a value of these fields, or None."""
    return value is None or is_value(fields, value)


def is_value(fields, value):
    """Tell whether any value is a tuple with one option of each field, in their order."""
    if not _is_tuple(value, len(fields), len(fields)):
        return False
    return all([option in options for option, (_, options) in zip(value, fields)])


def values_of(fields):
    """Return the list of all values, in the order of the options, the first field first."""
    found = [()]
    for _, options in fields:
        found = [(*value, option) for value in found for option in options]
    return found


def _is_tuple(value, least, most):
    return isinstance(value, tuple) and least <= len(value) <= most


def _are_options(value):
    if not _is_tuple(value, LEAST_OPTIONS, MOST_OPTIONS):
        return False
    return all([is_option(option) for option in value]) and len(set(value)) == len(value)


def _are_keys(fields, value):
    if not _is_tuple(value, 0, len(fields)) or not all([_is_key(fields, key) for key in value]):
        return False
    return len(set(names_of(value))) == len(value)


def _is_key(fields, value):
    return _is_tuple(value, 2, 2) and value[0] in names_of(fields) and value[1] in DIRECTIONS


def _is_test(fields, value):
    return _is_tuple(value, 3, 3) and value[1] in SIGNS and value[2] in _options_of(fields, value[0])


def _is_step(fields, value):
    if not _is_tuple(value, 2, 2):
        return False
    return value[1] in (NEXT, *_options_of(fields, value[0])) and value[0] in names_of(fields)


def _options_of(fields, name):
    for known, options in fields:
        if known == name:
            return options
    return ()
