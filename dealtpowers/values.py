"""Helpers for values of any kind."""


def is_list(value):
    """Whether any value is a list, or a tuple, which may be passed in its place."""
    return isinstance(value, (list, tuple))


def copied(value):
    """Any value, with new lists in the places of its lists, also within lists and tuples."""
    if isinstance(value, list):
        return [copied(item) for item in value]
    if isinstance(value, tuple):
        return tuple([copied(item) for item in value])
    return value


def added_up(pairs):
    """The ascending list of the pairs (key, number), with the numbers of equal keys added up."""
    found = {}
    for key, number in pairs:
        found[key] = found.get(key, 0) + number
    return sorted(found.items())
