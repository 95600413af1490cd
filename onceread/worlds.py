"""Worlds: things in order, and named relations between them."""

from onceread.errors import BadOrder, BadRow, BadWorld, NoSuchRelation
from onceread.kinds import LARGEST_ARITY, is_between, is_name, is_row, is_sequence, is_thing

SMALLEST_WORLD = 2
LARGEST_WORLD = 400
MOST_RELATIONS = 12


def is_relation(entry, size):
    """Is it a name, an arity and a sequence of rows of this arity?"""
    if not is_sequence(entry) or len(entry) != 3:
        return False
    name, arity, rows = entry
    if not is_name(name) or not is_between(arity, 1, LARGEST_ARITY) or not is_sequence(rows):
        return False
    return all([is_row(row, arity, size) for row in rows])


def checked_relations(size, relations):
    """A dict that gives the arity and the ascending rows for each name."""
    if not is_sequence(relations) or len(relations) > MOST_RELATIONS:
        raise BadWorld()
    tables = {}
    for entry in relations:
        if not is_relation(entry, size) or entry[0] in tables:
            raise BadWorld()
        tables[entry[0]] = (entry[1], tuple(sorted({tuple(row) for row in entry[2]})))
    return tables


class World:
    """A world. It never changes; what edits it returns another one."""

    def __init__(self, size, relations=()):
        if not is_between(size, SMALLEST_WORLD, LARGEST_WORLD):
            raise BadWorld()
        tables = checked_relations(size, relations)
        self.size = size
        self.names = tuple(sorted(tables))
        self.facts = tuple([(name, row) for name in self.names for row in tables[name][1]])
        self._tables = tables
        self._arities = tuple([tables[name][0] for name in self.names])
        self._stands = {fact: True for fact in self.facts}

    def arity(self, name):
        """The arity of a relation."""
        return self._table(name)[0]

    def rows(self, name):
        """The rows of a relation, ascending."""
        return self._table(name)[1]

    def put(self, name, row):
        """The world in which this fact stands, too."""
        known = self._checked_row(name, row)
        if (name, known) in self._stands:
            return self
        return self._with_rows(name, self.rows(name) + (known,))

    def drop(self, name, row):
        """The world in which this fact does not stand."""
        known = self._checked_row(name, row)
        if (name, known) not in self._stands:
            return self
        return self._with_rows(name, [other for other in self.rows(name) if other != known])

    def moved(self, order):
        """The world in which order[t] has the place of each thing t."""
        if not is_row(order, self.size, self.size) or len(set(order)) != self.size:
            raise BadOrder()
        relations = []
        for name in self.names:
            rows = [tuple([order[thing] for thing in row]) for row in self.rows(name)]
            relations.append((name, self.arity(name), rows))
        return World(self.size, relations)

    def _table(self, name):
        # A deed may bring a name that is no text, and perhaps no key.
        if not isinstance(name, str) or name not in self._tables:
            raise NoSuchRelation(name)
        return self._tables[name]

    def _checked_row(self, name, row):
        if not is_row(row, self.arity(name), self.size):
            raise BadRow(row)
        return tuple(row)

    def _with_rows(self, name, rows):
        relations = []
        for other in self.names:
            told = rows if other == name else self.rows(other)
            relations.append((other, self.arity(other), told))
        return World(self.size, relations)

    def __contains__(self, pair):
        if not is_sequence(pair) or len(pair) != 2:
            return False
        name, row = pair
        # The members are looked at first: True equals 1 as a key, but is no thing.
        if not isinstance(name, str) or not is_sequence(row):
            return False
        return all([is_thing(member, self.size) for member in row]) and (name, tuple(row)) in self._stands

    def __len__(self):
        return len(self.facts)

    def __iter__(self):
        return iter(self.facts)

    def __eq__(self, other):
        return (isinstance(other, World) and self.size == other.size and self.names == other.names
                and self._arities == other._arities and self.facts == other.facts)
