"""Runs of a judge that get their letters one by one."""

from onceread.judges import Judge
from onceread.machines import Machine, first_again
from onceread.standings import beginning, checked_standing


class Reader:
    """A run of a judge that waits for its letters."""

    def __init__(self, judge, world, given=()):
        self._world = world
        self._fed = 0
        self._set_out(judge, beginning(judge, world, given))

    @classmethod
    def resumed(cls, judge, world, standing):
        """A reader that goes on from a standing."""
        known = checked_standing(judge, world, standing)
        # Made for a judge that ends at once: the one that is told shall not run from its beginning.
        reader = cls(Judge(0, [("refuse",)]), world)
        reader._set_out(judge, known)
        return reader

    @property
    def state(self):
        """One of the words reading, taken, refused, endless."""
        return self._state

    @property
    def standing(self):
        """The standing at which the reader waits or ended."""
        return self._machine.line, tuple(self._machine.row)

    @property
    def fed(self):
        """The number of letters that it was fed."""
        return self._fed

    def feed(self, letter):
        """Read one more letter, and go on as far as possible. Returns the state."""
        self._fed += 1
        if self._state == "taken":
            self._state = "refused"
        elif self._state == "reading" and not self._machine.accepts(letter):
            self._state = "refused"
        elif self._state == "reading":
            self._machine.move(letter)
            self._go_on()
        return self._state

    def _set_out(self, judge, standing):
        self._judge = judge
        self._state = "reading"
        self._machine = Machine(judge, self._world, standing)
        self._go_on()

    def _go_on(self):
        machine = self._machine
        began = (machine.line, tuple(machine.row))
        circle = machine.run_on()
        if circle > 0:
            self._state = "endless"
            self._machine = first_again(self._judge, self._world, began, circle)
        elif not machine.is_waiting():
            self._state = "taken" if machine.at_word() == "take" else "refused"
