"""How many letters the rounds have in which it is shown that nothing leads to a goal."""

from onceread.graphs import Forward


class SteadyDenials:
    """The letters for denials of steps, where each denial has the same number of letters."""

    def __init__(self, number, steady):
        self._left = number
        self._shown = 0
        self._steady = steady

    def claim(self, places):
        """Claim these places; before, nothing is claimed."""
        self._left -= len(places)

    def show(self, places):
        """Show these places, too."""
        self._shown += len(places)

    def number_of_letters(self):
        """The letters of the denials of steps from all shown places to all that are not claimed."""
        return self._shown * self._left * self._steady


def letters_of_rounds(graph, start, number, denials):
    """The number of letters of the rounds, where there are so many places.

    What is claimed and shown is told to the object `denials`, which then tells how many letters
    the denials of steps have.
    """
    forward = Forward(graph, start)
    denials.claim([start])
    length = 0
    while True:
        shown, shown_letters, newly = len(forward.lengths), forward.sum_of_lengths, forward.newly
        forward.go_on()
        denials.claim(forward.newly)
        denials.show(newly)
        left = number - len(forward.lengths)
        length += len(forward.lengths) + forward.sum_of_lengths
        length += left * (1 + number + shown_letters) + denials.number_of_letters()
        if len(forward.lengths) == shown:
            return length
