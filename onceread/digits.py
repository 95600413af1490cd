"""Numbers of lines, written with the digits 0 and 1."""


def numbers_held(digits):
    """How many numbers can be written with so many digits."""
    held = 1
    for _ in range(digits):
        held *= 2
    return held


def digits_needed(number):
    """How many digits hold so many numbers from 0 on: at least one."""
    digits = 1
    while numbers_held(digits) < number:
        digits += 1
    return digits


def digits_of(number, digits):
    """A number with so many digits, the highest one first."""
    found = []
    left = number
    for _ in range(digits):
        found.append(left & 1)
        left //= 2
    return tuple(reversed(found))
