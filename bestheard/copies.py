"""Copies of values, so that nobody outside can change what an object keeps."""


def copy_of(value):
    """Return an equal value whose lists and dicts are new, also those within lists, tuples and dicts."""
    if isinstance(value, list):
        return [copy_of(item) for item in value]
    if isinstance(value, tuple):
        return tuple([copy_of(item) for item in value])
    if isinstance(value, dict):
        return {key: copy_of(worth) for key, worth in value.items()}
    return value
