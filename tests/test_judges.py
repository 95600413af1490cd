"""Points 1, 2 and 22: judges."""

import unittest

from onceread.errors import BadJudge
from onceread.judges import Judge

NO_NUMBERS = (None, True, False, "0", "", (), [], (0,), [0])
BAD_NAMES = ("some", "every", "not", "and", "or", "walk", "more", "than", "first", "last", "next", "",
             "abcdefghijklm", "0a", "A", "aB", "a_b", "a ", "\u00e9", "a\u0660", None, True, 0, (), [], ("a",), ["a"])
END = ("take",)
# An instruction with each word, for a judge of three registers and three lines;
# and what is told of each member: r a register, l a line, n a name, s a sequence of registers.
FORMS = {"read": "r", "claim": "l", "zero": "r", "copy": "rr", "step": "rl", "first": "rl", "same": "rrl",
         "fact": "nsl", "go": "l", "take": "", "refuse": ""}
GOOD = (("read", 2), ("claim", 2), ("zero", 0), ("copy", 0, 2), ("copy", 1, 1), ("step", 2, 0), ("first", 1, 2),
        ("same", 0, 2, 1), ("fact", "edge", (0, 2), 1), ("fact", "mark", (2,), 0), ("fact", "tri", (1, 1, 0), 2),
        ("go", 2), ("take",), ("refuse",))


def has_list(value):
    return isinstance(value, list) or isinstance(value, tuple) and any(map(has_list, value))


class JudgeTests(unittest.TestCase):
    def bad(self, registers, lines, given=0):
        with self.subTest(registers=registers, lines=repr(lines)[:200], given=given):
            self.assertRaises(BadJudge, Judge, registers, lines, given)


class Instructions(JudgeTests):
    def test_good_ones(self):
        for instruction in GOOD:
            for other in (instruction, list(instruction), [list(member) if isinstance(member, tuple) else member
                                                           for member in instruction]):
                judge = Judge(3, (other, ("zero", 0), END))
                self.assertEqual(judge.lines, (instruction, ("zero", 0), END))
                self.assertFalse(has_list(judge.lines))
                self.assertEqual(Judge(3, [["zero", 0], other, list(END)]).lines, (("zero", 0), instruction, END))

    def test_no_instructions(self):
        for junk in (None, True, 0, "", "take", "go", (), [], ("",), (None,), (True,), (0,), ((),), ([],), (("take",),),
                     ("Take",), ("take ",), ("leave",), ("not",), ("some",), ("taken",), ("zero1", 0)):
            self.bad(3, [junk, END])
            self.bad(3, [END, junk, END])
            if isinstance(junk, tuple):
                self.bad(3, [list(junk), END])

    def test_other_words(self):
        for instruction in GOOD:
            for word in (None, True, 0, "", "Read", ("read",), ["read"], "reads"):
                self.bad(3, [(word,) + instruction[1:], END, END])

    def test_numbers_of_members(self):
        for instruction in GOOD:
            for extra in (0, 1, None, "edge", (0,)):
                self.bad(3, [instruction + (extra,), END, END])
            for at in range(len(instruction)):
                self.bad(3, [instruction[:at] + instruction[at + 1:], END, END])

    def test_each_member_replaced(self):
        junk = {"r": NO_NUMBERS + (-1, 3, 400), "l": NO_NUMBERS + (-1, 3, 20000), "n": BAD_NAMES,
                "s": (None, True, 0, 1, "", "0", "01", (), [], (0, 0, 0, 0), [0, 1, 2, 0])}
        for instruction in GOOD:
            for at, sign in enumerate(FORMS[instruction[0]], 1):
                for member in junk[sign]:
                    self.bad(3, [instruction[:at] + (member,) + instruction[at + 1:], END, END])
                    self.bad(3, [END, list(instruction[:at]) + [member] + list(instruction[at + 1:]), END])

    def test_each_register_of_a_fact_replaced(self):
        for member in NO_NUMBERS + (-1, 3, 400):
            for row in ((member,), (0, member), (member, 0), (0, 0, member), (0, member, 1)):
                self.bad(3, [("fact", "edge", row, 0), END, END])
                self.bad(3, [("fact", "edge", list(row), 0), END, END])

    def test_bounds_of_registers(self):
        for many in (1, 2, 400):
            judge = Judge(many, [("copy", many - 1, 0), ("fact", "edge", (0, many - 1), 0), END])
            self.assertEqual(judge.lines[0], ("copy", many - 1, 0))
            for line in (("read", many), ("copy", many, 0), ("copy", 0, many), ("same", 0, many, 0),
                         ("fact", "edge", (0, many), 0), ("step", many, 0)):
                self.bad(many, [line, END])
        for line in (("read", 0), ("zero", 0), ("first", 0, 0), ("fact", "mark", (0,), 0)):
            self.bad(0, [line, END])

    def test_bounds_of_lines(self):
        for many in (1, 2, 5):
            rest = [END] * (many - 1)
            self.assertEqual(Judge(0, rest + [("go", many - 1)]).lines[-1], ("go", many - 1))
            for word in ("go", "claim"):
                self.bad(0, [(word, many)] + [END] * (many - 1))
            self.bad(0, rest + [("go", many)])

    def test_two_facts_of_one_name(self):
        one, two = ("fact", "edge", (0,), 0), ("fact", "edge", (0, 0), 0)
        self.bad(1, [one, two, END])
        self.bad(1, [two, one, END])
        self.bad(1, [two, ("zero", 0), ("fact", "edge", (0, 0, 0), 0), END])
        self.assertEqual(Judge(1, [two, two, END]).uses, (("edge", 2),))

    def test_names_of_instructions_are_names(self):
        self.assertEqual(Judge(1, [("fact", "read", (0,), 0), END]).uses, (("read", 1),))
        self.bad(1, [("fact", "first", (0,), 0), END])


class WholeJudges(JudgeTests):
    def test_last_line(self):
        for last in (("go", 0), ("take",), ("refuse",)):
            self.assertEqual(Judge(3, [("zero", 0), ("zero", 0), last]).lines[-1], last)
            self.assertEqual(Judge(0, [last]).lines, (last,))
        for last in GOOD:
            if last[0] not in ("go", "take", "refuse"):
                self.bad(3, [END, END, last])
                self.bad(3, [END, END, list(last)])

    def test_numbers_of_lines(self):
        for many in (1, 2, 19999, 20000):
            self.assertEqual(len(Judge(0, [END] * many).lines), many)
        for many in (0, 20001, 20002, 40000):
            with self.subTest(many=many):
                self.assertRaises(BadJudge, Judge, 0, [END] * many)
                self.assertRaises(BadJudge, Judge, 0, (END,) * many)

    def test_largest_line(self):
        lines = [("go", 19999)] + [END] * 19999
        self.assertEqual(Judge(0, lines).lines[0], ("go", 19999))
        self.bad(0, [("go", 20000)] + [END] * 19999)

    def test_lines_are_a_sequence(self):
        for lines in (None, True, 0, 5, "", "take", "t", (), [], "abc"):
            self.bad(0, lines)

    def test_registers(self):
        for many in (0, 1, 399, 400):
            self.assertEqual(Judge(many, [END]).registers, many)
        for many in (-1, 401, 402, 1000) + NO_NUMBERS:
            self.bad(many, [END])

    def test_given(self):
        for registers, given in ((0, 0), (1, 0), (1, 1), (400, 0), (400, 400), (5, 3)):
            self.assertEqual(Judge(registers, [END], given).given, given)
        for registers, given in ((0, 1), (1, 2), (400, 401), (5, -1), (5, 6)):
            self.bad(registers, [END], given)
        for given in NO_NUMBERS:
            self.bad(5, [END], given)
        self.assertEqual(Judge(5, [END]).given, 0)

    def test_by_name(self):
        judge = Judge(registers=2, lines=[END], given=1)
        self.assertEqual((judge.registers, judge.lines, judge.given), (2, (END,), 1))

    def test_deep_junk(self):
        deep = ()
        for _ in range(5000):
            deep = [deep]
        for lines in (deep, [deep], [("go", deep)], [("fact", "edge", deep, 0), END], [(deep,)]):
            self.assertRaises(BadJudge, Judge, 3, lines)
        self.assertRaises(BadJudge, Judge, deep, [END])
        self.assertRaises(BadJudge, Judge, 3, [END], deep)

    def test_later_changes_have_no_effect(self):
        row, line = [0, 1], ["fact", "edge", None, 1]
        line[2] = row
        lines = [line, ["take"]]
        judge = Judge(2, lines)
        self.assertEqual(lines, [["fact", "edge", [0, 1], 1], ["take"]])
        row[0] = 1
        line[1] = "link"
        lines.append(["refuse"])
        self.assertEqual(judge.lines, (("fact", "edge", (0, 1), 1), ("take",)))
        self.assertEqual(judge.uses, (("edge", 2),))


class UsesAndEquality(unittest.TestCase):
    def test_uses(self):
        judge = Judge(3, [("fact", "tri", (0, 1, 2), 0), ("fact", "b10", (0,), 0), ["fact", "b", [1], 0],
                          ("fact", "tri", (2, 2, 2), 0), ("fact", "a", (0, 0), 0), ("fact", "b10", (2,), 1), END])
        self.assertEqual(judge.uses, (("a", 2), ("b", 1), ("b10", 1), ("tri", 3)))
        self.assertFalse(has_list(judge.uses))
        self.assertEqual(Judge(1, [("read", 0), END]).uses, ())

    def test_equal(self):
        lines = [("fact", "edge", (0, 1), 1), ("read", 0), ("refuse",)]
        judge = Judge(2, lines, 1)
        self.assertTrue(judge == Judge(2, [["fact", "edge", [0, 1], 1], ["read", 0], ["refuse"]], 1))
        self.assertFalse(judge != Judge(2, tuple(lines), given=1))

    def test_not_equal(self):
        lines = [("fact", "edge", (0, 1), 1), ("read", 0), ("refuse",)]
        judge = Judge(2, lines, 1)
        for other in (Judge(3, lines, 1), Judge(2, lines, 0), Judge(2, lines, 2), Judge(2, lines + [END], 1),
                      Judge(2, lines[:2] + [END], 1), Judge(2, [("fact", "edge", (1, 0), 1)] + lines[1:], 1)):
            self.assertFalse(judge == other)
            self.assertTrue(judge != other)

    def test_not_equal_to_other_objects(self):
        judge = Judge(1, [END], 1)
        for other in (None, 1, "judge", (END,), (1, (END,), 1), [1], object()):
            self.assertFalse(judge == other)
            self.assertTrue(judge != other)
            self.assertFalse(other == judge)


if __name__ == "__main__":
    unittest.main()
