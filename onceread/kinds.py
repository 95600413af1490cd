"""Of what kind a value is: a whole number, a sequence, a name, a thing, a row of things."""

RESERVED = ("some", "every", "not", "and", "or", "walk", "more", "than", "first", "last", "next")
LONGEST_NAME = 12
LARGEST_ARITY = 3


def is_whole(value):
    """Is it an integer that is not True or False?"""
    return isinstance(value, int) and not isinstance(value, bool)


def is_between(value, low, high):
    """Is it a whole number from low to high?"""
    return is_whole(value) and low <= value <= high


def is_sequence(value):
    """Is it a tuple or a list?"""
    return isinstance(value, (tuple, list))


def is_name(value):
    """May a relation or a variable be called so?"""
    if not isinstance(value, str) or not 1 <= len(value) <= LONGEST_NAME:
        return False
    # Without isascii, letters and digits of other scripts would pass the tests behind it.
    if not value.isascii() or not value.isalnum() or not value.islower():
        return False
    return not value[0].isdigit() and value not in RESERVED


def is_thing(value, size):
    """Is it a thing of a world of this size?"""
    return is_between(value, 0, size - 1)


def is_row(value, length, size):
    """Is it a sequence of just so many things of a world of this size?"""
    if not is_sequence(value) or len(value) != length:
        return False
    return all([is_thing(member, size) for member in value])


def are_different_names(value, most):
    """Is it a sequence of at most so many names, each of them once?"""
    if not is_sequence(value) or len(value) > most:
        return False
    return all([is_name(member) for member in value]) and len(set(value)) == len(value)
