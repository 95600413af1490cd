"""Classes of lines from which a judge does the same, line for line."""

from onceread.comparing import core_of, lines_behind, lines_stood_for


class Parting:
    """Members that are parted into classes, finer and finer.

    Some classes wait: it is still to be seen which members lead to them and which do not.
    """

    def __init__(self, cores):
        self.class_of = {}
        self.members = []
        self._queue = []
        self._waits = []
        first = {}
        for member, core in cores.items():
            if core not in first:
                first[core] = self._begin_class()
                self._let_wait(first[core])
            self._put_into(first[core], member)

    def is_done(self):
        """Does no class wait?"""
        return not self._queue

    def next_members(self):
        """The members of a class that has waited till now."""
        number = self._queue.pop()
        self._waits[number] = False
        return list(self.members[number])

    def part(self, found):
        """Part each class into the members that are found and all others."""
        lots = {}
        for member in found:
            lots.setdefault(self.class_of[member], []).append(member)
        for number, lot in lots.items():
            if len(lot) < len(self.members[number]):
                self._take_out(number, lot)

    def _begin_class(self):
        self.members.append({})
        self._waits.append(False)
        return len(self.members) - 1

    def _let_wait(self, number):
        self._waits[number] = True
        self._queue.append(number)

    def _put_into(self, number, member):
        self.members[number][member] = True
        self.class_of[member] = number

    def _take_out(self, number, lot):
        made = self._begin_class()
        for member in lot:
            del self.members[number][member]
            self._put_into(made, member)
        # If the two together have been looked at already, the smaller one tells of the other, too.
        if self._waits[number] or len(lot) <= len(self.members[number]):
            self._let_wait(made)
        else:
            self._let_wait(number)


def classes_of_lines(judge):
    """For each line, the number of its class."""
    nothing = len(judge.lines)
    stood_for = [nothing if line is None else line for line in lines_stood_for(judge)]
    cores = {nothing: ()}
    # For the lines behind and for the goals: the lines that lead to each line.
    leads = [{}, {}]
    for line, other in enumerate(stood_for):
        if line == other:
            cores[line] = core_of(judge.lines[line])
            for at, behind in enumerate(lines_behind(judge, line)):
                leads[at].setdefault(stood_for[behind], []).append(line)
    parting = Parting(cores)
    while not parting.is_done():
        members = parting.next_members()
        for lead in leads:
            parting.part([line for member in members for line in lead.get(member, [])])
    return [parting.class_of[line] for line in stood_for]
