"""Counter-papers: they show that a judge takes no paper."""

from onceread.courses import Courses
from onceread.errors import TooLong
from onceread.reaching import reached
from onceread.roundcounts import SteadyDenials, letters_of_rounds
from onceread.roundletters import round_letters
from onceread.sheets import Sheet, read_rounds
from onceread.standings import beginning


class CourseField:
    """The standings of a judge, for the rounds of a counter-paper that is read."""

    def __init__(self, courses, start, sheet):
        self._courses = courses
        self._start = start
        self._sheet = sheet

    def first_place(self):
        """The first standing."""
        return self._courses.first_standing()

    def place_behind(self, place):
        """The next standing."""
        return self._courses.standing_behind(place)

    def is_barred(self, place):
        """No standing at a take must be claimed."""
        return self._courses.takes(place)

    def read_way(self, place, most):
        """Read a course to a standing."""
        here = self._start
        made = 0
        while here != place:
            edges = self._courses.edges_from(here)
            if made == most or not edges:
                return False
            letter = self._letter(edges)
            if letter is None:
                return False
            # The moves of a standing that reads stand in the order of their letters.
            here = edges[letter][2]
            made += 1
        return True

    def _letter(self, edges):
        return self._sheet.next_letter(len(edges)) if edges[0][1] else 0

    def read_denial(self, place, target):
        """None of the moves from a standing may lead to the target. Nothing is read."""
        return not self._courses.leads(place, target)


class CourseLetters:
    """The letters of a counter-paper."""

    def __init__(self, courses):
        self._places = courses.all_standings()

    def all_places(self):
        """A list of all standings."""
        return self._places

    def way_letters(self, edges):
        """The letters of a course."""
        letters = []
        for edge in edges:
            letters.extend(edge[1])
        return letters

    def denial_letters(self, place, target):
        """Where a move does not lead can be seen without letters."""
        return []


def is_counter_right(judge, world, letters, given=()):
    """Is this paper a right counter-paper?"""
    start = beginning(judge, world, given)
    sheet = Sheet(letters)
    field = CourseField(Courses(judge, world), start, sheet)
    return read_rounds(sheet, field) is not None and sheet.is_read_whole()


def counter_paper(judge, world, given=(), *, limit=20000, longest=100000):
    """The least right counter-paper, or None if the judge takes some paper."""
    standings = reached(judge, world, given, limit=limit)
    courses = Courses(judge, world)
    if any([courses.takes(standing) for standing in standings]):
        return None
    number = courses.number_of_standings()
    length = letters_of_rounds(courses, standings[0], number, SteadyDenials(number, 0))
    if length > longest:
        raise TooLong(length)
    return tuple(round_letters(courses, standings[0], CourseLetters(courses)))
