"""All rows of things of one length."""


def next_row(row, size):
    """The next row of things of a world of this size, ascending, or None behind the last one."""
    at = len(row) - 1
    while at >= 0 and row[at] == size - 1:
        at -= 1
    if at < 0:
        return None
    return row[:at] + (row[at] + 1,) + (0,) * (len(row) - 1 - at)


def all_rows(size, width):
    """A list of all rows of so many things, ascending."""
    rows = []
    row = (0,) * width
    while row is not None:
        rows.append(row)
        row = next_row(row, size)
    return rows


def number_of_rows(size, width):
    """How many rows of so many things there are."""
    number = 1
    for _ in range(width):
        number *= size
    return number
