"""Lines of a judge that read the rounds in which it is shown that nothing leads to a goal.

They are written with the help of an object, called `field` here, that knows the places, each of
which is held in a row of registers. Its methods write lines: write_start(here), to put the start
into registers; write_next(row, goal), to put the next place into them and go to the goal, or go
on below behind the last place; write_bar(target), to refuse if a place must not be claimed;
write_move(here), to read a step and put the place to which it leads into the registers;
write_denial(place, target, here), to read that no step leads from a place to a target, where
the registers `here` are free.
"""

from onceread.coding import rows_of_registers


class RoundLines:
    """The lines of all rounds.

    All numbers are held in rows of registers, as digits to the base of the size of the world: as
    many as there are registers for a place. There are no more places than a row can hold.

    A way to the target and a way to a shown place are read by the same lines, so that a step
    stands there once. The register `flag` tells which of them is read: 0 for a shown place.
    """

    def __init__(self, code, width, top):
        self.code = code
        rows = rows_of_registers(top, width, 8)
        self.round_number, self.round_count, self.claimed, self.target = rows[:4]
        self.other, self.shown, self.here, self.done = rows[4:]
        self.flag = top + 8 * width
        # From here on, registers are free.
        self.top = self.flag + 1
        self.entry = code.label()
        self.to_target = code.label()
        self.to_other = code.label()

    def write(self, field):
        """Write all lines: they go on below, or refuse."""
        code = self.code
        again, each, is_claimed, further, behind = [code.label() for _ in range(5)]
        code.zero_all(self.round_number + self.round_count)
        code.count_one(self.round_count)
        code.stand(again)
        code.zero_all(self.claimed + self.target)
        code.stand(each)
        code.write("claim", is_claimed)
        self._write_unclaimed(field, further)
        code.stand(is_claimed)
        field.write_bar(self.target)
        self._write_way_to_target()
        code.count_one(self.claimed)
        code.stand(further)
        field.write_next(self.target, each)
        code.go_if_same(self.claimed, self.round_count, behind)
        code.copy_all(self.round_count, self.claimed)
        code.count_one(self.round_number)
        code.write("go", again)
        self._write_ways(field)
        code.stand(behind)

    def _write_way_to_target(self):
        code = self.code
        code.put_one(self.flag)
        code.write("go", self.entry)
        code.stand(self.to_target)

    def _write_unclaimed(self, field, behind):
        code = self.code
        each, is_shown, further = code.label(), code.label(), code.label()
        # The start is always counted. So 0 stands for one more than a row can hold: for all places.
        code.go_if_zero(self.round_count, code.refuse)
        code.zero_all(self.shown + self.other)
        code.stand(each)
        code.write("claim", is_shown)
        code.write("go", further)
        code.stand(is_shown)
        code.write("zero", self.flag)
        code.write("go", self.entry)
        code.stand(self.to_other)
        code.go_if_same(self.other, self.target, code.refuse)
        field.write_denial(self.other, self.target, self.here)
        code.count_one(self.shown)
        code.stand(further)
        field.write_next(self.other, each)
        code.refuse_unless_same(self.shown, self.round_count)
        code.write("go", behind)

    def _write_ways(self, field):
        code = self.code
        again, is_other, further, last = [code.label() for _ in range(4)]
        code.stand(self.entry)
        field.write_start(self.here)
        code.zero_all(self.done)
        code.stand(again)
        code.write("first", self.flag, is_other)
        code.go_if_same(self.here, self.target, self.to_target)
        code.write("go", further)
        code.stand(is_other)
        code.go_if_same(self.here, self.other, self.to_other)
        code.go_if_same(self.done, self.round_number, code.refuse)
        code.stand(further)
        field.write_move(self.here)
        code.go_if_same(self.done, self.round_number, last)
        code.count_one(self.done)
        code.write("go", again)
        # Only a way to the target comes here: its one step more is made, and no other may follow.
        code.stand(last)
        code.go_if_same(self.here, self.target, self.to_target)
        code.write("go", code.refuse)
