"""What counts as an integer, as a name, and as a dict to other names."""

from wheelgrown.errors import InvalidPlace

MAX_LETTERS = 8
MAX_FIGURES = 60


def is_integer(value):
    """Whether the value is an integer of at most sixty digits."""
    # bool is a kind of int for Python, but True and False are no integers here.
    if not isinstance(value, int) or isinstance(value, bool):
        return False
    return abs(value) <= int("9" * MAX_FIGURES)


def is_count(value):
    """Whether the value is an integer of at least 0."""
    return is_integer(value) and value >= 0


def is_name(value):
    """Whether the value is a string of one to eight letters a to z."""
    if not isinstance(value, str) or not 1 <= len(value) <= MAX_LETTERS:
        return False
    return all(["a" <= letter <= "z" for letter in value])


def are_names(value):
    """Whether the value is a tuple of names, in which names can come twice."""
    return isinstance(value, tuple) and all([is_name(name) for name in value])


def are_different_names(value):
    """Whether the value is a tuple of names, none of which comes twice."""
    return are_names(value) and len(set(value)) == len(value)


def is_ascending(row):
    """Whether each item of a tuple is less than the next one; all must be of one kind."""
    return all([one < other for one, other in zip(row, row[1:])])


def are_ascending_names(value):
    """Whether the value is an ascending tuple of names."""
    return are_names(value) and is_ascending(value)


def is_naming(names, value):
    """Whether the value is a dict from just these names to different names."""
    if not are_names(names):
        raise InvalidPlace("names are told by a tuple of names")
    if not isinstance(value, dict) or len(value) != len(set(names)):
        return False
    if not all([name in value for name in names]):
        return False
    return are_different_names(tuple(value.values()))
