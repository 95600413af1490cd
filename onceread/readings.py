"""Reading a paper for a side of a question, letter by letter."""

from onceread.nodes import Walking, bound_to, things_for
from onceread.rows import next_row
from onceread.sheets import Sheet, read_rounds
from onceread.trees import ATOMS
from onceread.truths import Truth


class Reading:
    """A paper that is read for a question. It keeps the facts that are looked at.

    The methods that read a part of it return False, or None where they return something, if
    reading fails there.
    """

    def __init__(self, question, world, letters):
        self.size = world.size
        self.sheet = Sheet(letters)
        self.looked = {}
        # The rounds of the walk whose no was read to its end last.
        self.rounds = None
        self._truth = Truth(question, world)
        # Trees that were read to their end without any letter, with things for their variables.
        self._letterless = {}

    def is_right(self, yes, things):
        """Read the side of the question. Does reading end just behind the last letter?"""
        return self.read(self._truth.root, yes, things) and self.sheet.is_read_whole()

    def read(self, node, yes, things):
        """Read the yes or the no of a tree from the next letter on."""
        word = node.word
        if word in ATOMS:
            return self._atom(node, yes, things)
        if word == "not":
            return self.read(node.parts[0], not yes, things)
        if word == "and" or word == "or":
            return self._joined(node, yes, things)
        if word == "some" or word == "every":
            return self._bound(node, yes, things)
        if word == "more":
            return self._compared(node, yes, things)
        walking = Walking(node, things)
        if yes:
            return self.read_way(walking, walking.goal, None)
        if walking.start == walking.goal:
            return False
        self.rounds = read_rounds(self.sheet, WalkField(self, walking))
        return self.rounds is not None

    def read_way(self, walking, target, most):
        """Read a way to a tuple; most is None if any number of steps will do."""
        here = walking.start
        left = most
        while here != target:
            if left == 0:
                return False
            after = self._row(walking.width)
            if after is None or not self.read(walking.step, True, walking.between(here, after)):
                return False
            here = after
            left = None if left is None else left - 1
        return True

    def _row(self, width):
        row = []
        while len(row) < width:
            letter = self.sheet.next_letter(self.size)
            if letter is None:
                return None
            row.append(letter)
        return tuple(row)

    def _atom(self, node, yes, things):
        stands = self._truth.value(node, things)
        if node.word == "rel":
            self.looked[(node.tree[1], things_for(node.names, things))] = stands
        return stands == yes

    def _joined(self, node, yes, things):
        if (node.word == "and") == yes:
            return self.read(node.parts[0], yes, things) and self.read(node.parts[1], yes, things)
        claim = self.sheet.next_letter(2)
        return claim is not None and self.read(node.parts[claim], yes, things)

    def _bound(self, node, yes, things):
        names = (node.tree[1],)
        if (node.word == "some") == yes:
            thing = self.sheet.next_letter(self.size)
            return thing is not None and self.read(node.parts[0], yes, bound_to(names, (thing,), things))
        # What was read without letters is read so again, and the same facts are looked at.
        key = (node.number, yes, things_for(node.needs, things))
        if key in self._letterless:
            return True
        before = self.sheet.number_read()
        for thing in range(self.size):
            if not self.read(node.parts[0], yes, bound_to(names, (thing,), things)):
                return False
        if self.sheet.number_read() == before:
            self._letterless[key] = True
        return True

    def _compared(self, node, yes, things):
        one = self._claimed_things(node.parts[0], node.tree[1], things)
        if one is None:
            return False
        two = self._claimed_things(node.parts[1], node.tree[3], things)
        return two is not None and (one > two) == yes

    def _claimed_things(self, part, name, things):
        # For how many things the part is claimed to hold.
        count = 0
        for thing in range(self.size):
            claim = self.sheet.next_letter(2)
            if claim is None or not self.read(part, claim == 1, bound_to((name,), (thing,), things)):
                return None
            count += claim
        return count


class WalkField:
    """The tuples of a walk, for the rounds of its no."""

    def __init__(self, reading, walking):
        self._reading = reading
        self._walking = walking

    def first_place(self):
        """The first tuple."""
        return (0,) * self._walking.width

    def place_behind(self, place):
        """The next tuple."""
        return next_row(place, self._reading.size)

    def is_barred(self, place):
        """The goal must not be claimed."""
        return place == self._walking.goal

    def read_way(self, place, most):
        """Read a way to a tuple."""
        return self._reading.read_way(self._walking, place, most)

    def read_denial(self, place, target):
        """Read that there is no step."""
        walking = self._walking
        return self._reading.read(walking.step, False, walking.between(place, target))
