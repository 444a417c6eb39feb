"""Copies of values, so that nobody outside can change what an object keeps."""


def copy_of(value):
    """Return an equal value whose lists are new, also those within lists and tuples."""
    if isinstance(value, list):
        return [copy_of(item) for item in value]
    if isinstance(value, tuple):
        return tuple([copy_of(item) for item in value])
    return value
