"""Points 62 and 64: write_judge and read_judge."""

import random
import unittest

from onceread.errors import BadNote, OnceError
from onceread.judgenotes import read_judge, write_judge
from onceread.judges import Judge

import samples
from samples import check_error
from test_worldnotes import SIGNS, changed

TAKE, REFUSE = ("take",), ("refuse",)
EVERY_WORD = Judge(12, [("read", 0), ("claim", 11), ("zero", 10), ("copy", 1, 2), ("step", 3, 0), ("first", 4, 5),
                        ("same", 11, 0, 6), ("fact", "edge", (0, 11), 9), ("fact", "mark", (5,), 0),
                        ("fact", "tri", (1, 1, 2), 10), ("go", 11), TAKE, REFUSE, ("go", 0)], 3)
WRITTEN = """judge 12 given 3 lines 14
0 read 0
1 claim 11
2 zero 10
3 copy 1 2
4 step 3 0
5 first 4 5
6 same 11 0 6
7 fact edge 0 11 9
8 fact mark 5 0
9 fact tri 1 1 2 10
10 go 11
11 take
12 refuse
13 go 0"""


def as_told(lines, head):
    """A judge that is written with these first lines, or None."""
    registers, given, number = head
    made = []
    for line in lines:
        words = line.split(" ")
        if words[1:2] == ["fact"]:
            members = (words[1], words[2], tuple(int(word) for word in words[3:-1]), int(words[-1]))
        else:
            members = tuple(words[1:2]) + tuple(int(word) for word in words[2:])
        made.append(members)
    made += [TAKE] * (number - len(made))
    judge = Judge(registers, made, given)
    return judge if write_judge(judge).split("\n")[1:len(lines) + 1] == lines else None


def first_bad(text):
    """The number of the first bad line: no judge is written with the lines before it and this one. None if all are good."""
    lines = text.split("\n")
    words = lines[0].split(" ")
    try:
        head = int(words[1]), int(words[3]), int(words[5])
        if write_judge(Judge(head[0], [TAKE] * head[2], head[1])).split("\n")[0] != lines[0]:
            return 1
    except (ValueError, IndexError, OnceError):
        return 1
    for number in range(1, len(lines)):
        try:
            if number > head[2] or as_told(lines[1:number + 1], head) is None:
                return number + 1
        except (ValueError, IndexError, OnceError):
            return number + 1
    return len(lines) + 1 if len(lines) <= head[2] else None


class Write(unittest.TestCase):
    def check(self, judge, text):
        self.assertEqual(write_judge(judge), text)
        self.assertEqual(write_judge(judge=judge), text)
        self.assertEqual(read_judge(text), judge)
        self.assertEqual(read_judge(text=text), judge)

    def test_small(self):
        self.check(Judge(0, [TAKE]), "judge 0 given 0 lines 1\n0 take")
        self.check(Judge(400, [REFUSE], 400), "judge 400 given 400 lines 1\n0 refuse")
        self.check(Judge(1, [("go", 0)], 1), "judge 1 given 1 lines 1\n0 go 0")
        self.check(EVERY_WORD, WRITTEN)
        judge = Judge(2, [("claim", 4)] * 4 + [("fact", "edge", (0, 1), 4), REFUSE])
        self.assertEqual(write_judge(judge).split("\n")[5], "4 fact edge 0 1 4")

    def test_names_that_are_words(self):
        judge = Judge(1, [("fact", name, (0,), 5) for name in ("read", "fact", "take", "judge", "lines")] + [TAKE])
        self.assertEqual(read_judge(write_judge(judge)), judge)
        self.assertEqual(write_judge(judge).split("\n")[2], "1 fact fact 0 5")

    def test_random(self):
        chance = random.Random(64)
        for _ in range(200):
            judge = samples.some_judge(chance, chance.choice((0, 1, 3, 12)), chance.choice((1, 2, 5, 20, 101)))
            found = read_judge(write_judge(judge))
            self.assertIsInstance(found, Judge)
            self.assertEqual(found, judge)

    def test_many_lines(self):
        judge = Judge(400, [("same", 399, 0, 19999)] * 19999 + [("go", 0)], 17)
        text = write_judge(judge)
        self.assertEqual(text.split("\n")[19999], "19998 same 399 0 19999")
        self.assertEqual(read_judge(text), judge)


class Read(unittest.TestCase):
    def check(self, line, *lines):
        text = "\n".join(lines)
        with self.subTest(text=text[:200]):
            self.assertEqual(first_bad(text), line)
            check_error(self, BadNote(line), read_judge, text)

    def test_first_line(self):
        for wrong in ("", "judge", "judge 0 given 0 lines", "judge 0 given 0 lines 0", "judge 0 given 0 lines 20001",
                      "judge 401 given 0 lines 1", "judge 0 given 1 lines 1", "judge 2 given 3 lines 1",
                      "judge -1 given 0 lines 1", "judge 01 given 0 lines 1", "judge 1 given 00 lines 1",
                      "judge 1 given 0 lines 01", "judge 1 given 0 lines +1", "Judge 1 given 0 lines 1",
                      "judge 1 given 0 line 1", "judge 1 gives 0 lines 1", "judge  1 given 0 lines 1",
                      "judge 1 given 0 lines 1 ", " judge 1 given 0 lines 1", "judge 1 given 0 lines 1 0",
                      "judge 1 given 0 lines one", "judge \u0661 given 0 lines 1", "judge 1 given 0 lines 1" + "0" * 5000,
                      "judge 1 given 0\tlines 1", "world 2", "0 take"):
            self.check(1, wrong)
            self.check(1, wrong, "0 take")
        self.assertEqual(read_judge("judge 400 given 400 lines 1\n0 take").given, 400)

    def test_instructions(self):
        for wrong in ("", "0", "0 ", "1 take", "00 take", " 0 take", "0  take", "0 take ", "0 Take", "0 takes", "0 take 0",
                      "take", "+0 take", "-0 take", "0 read", "0 read 2", "0 read -1", "0 read 00", "0 read 01", "0 read 0 0",
                      "0 read x", "0 claim 3", "0 claim", "0 claim 1 1", "0 zero 2", "0 copy 0", "0 copy 0 2", "0 copy 0 1 1",
                      "0 step 0", "0 step 0 3", "0 step 2 0", "0 first 0 3", "0 same 0 1", "0 same 0 2 0", "0 same 0 1 3",
                      "0 go", "0 go 3", "0 go 0 0", "0 fact", "0 fact edge", "0 fact edge 0", "0 fact edge 0 3",
                      "0 fact edge 2 0", "0 fact edge 0 0 0 0 0", "0 fact Edge 0 0", "0 fact walk 0 0", "0 fact 0 0 0",
                      "0 fact edge 0 0 ", "0 fact edge  0 0", "0 fact edge (0) 0", "0 fact edge 0, 0 0", "0 jump 0", "0 refuse 1",
                      "0 read \u0660", "0 read 1" + "0" * 5000, "0 fact abcdefghijklm 0 0", "0\ttake", "0 take\r", "0 not 0"):
            self.check(2, "judge 2 given 0 lines 3", wrong)
            self.check(2, "judge 2 given 0 lines 3", wrong, "1 take", "2 take")
            if wrong[:2] == "0 ":
                self.check(3, "judge 2 given 0 lines 3", "0 zero 1", "1" + wrong[1:])
        self.check(2, "judge 0 given 0 lines 2", "0 read 0", "1 take")

    def test_last_line(self):
        for wrong in ("1 read 0", "1 claim 0", "1 zero 0", "1 copy 0 0", "1 step 0 0", "1 first 0 0", "1 same 0 0 0",
                      "1 fact edge 0 0"):
            self.check(3, "judge 1 given 0 lines 2", "0 take", wrong)
            self.check(3, "judge 1 given 0 lines 2", "0 take", wrong, "2 take")
        for right in ("1 take", "1 refuse", "1 go 0", "1 go 1"):
            self.assertEqual(len(read_judge("judge 1 given 0 lines 2\n0 take\n" + right).lines), 2)

    def test_numbers_of_registers_of_a_fact(self):
        head = "judge 3 given 0 lines 4"
        self.check(3, head, "0 fact edge 0 1 0", "1 fact edge 0 0", "2 take", "3 take")
        self.check(4, head, "0 fact edge 0 1 0", "1 fact mark 0 0", "2 fact edge 0 1 2 0", "3 take")
        self.assertEqual(read_judge("\n".join((head, "0 fact edge 0 1 0", "1 fact mark 0 0", "2 fact edge 2 1 3", "3 take"))
                                    ).uses, (("edge", 2), ("mark", 1)))

    def test_number_of_lines(self):
        lines = WRITTEN.split("\n")
        for number in range(1, len(lines)):
            self.check(number + 1, *lines[:number])
        self.check(16, *lines, "14 take")
        self.check(16, *lines, "")
        self.check(16, *lines, "14 take", "15 take")
        self.check(3, "judge 0 given 0 lines 1", "0 take", "1 take")
        self.check(2, "judge 0 given 0 lines 20000")
        self.check(3, "judge 0 given 0 lines 20000", "0 take")
        self.check(3, "judge 0 given 0 lines 20000", "0 take", "")

    def test_order_of_lines(self):
        lines = WRITTEN.split("\n")
        for number in range(1, len(lines) - 1):
            other = lines[:number] + [lines[number + 1], lines[number]] + lines[number + 2:]
            self.check(number + 1, *other)
            self.check(number + 1, *(lines[:number] + lines[number + 1:]))
            self.check(number + 2, *(lines[:number + 1] + lines[number:]))

    def test_one_sign_changed(self):
        others = []
        for at in range(len(WRITTEN) + 1):
            for sign in SIGNS:
                others += [WRITTEN[:at] + sign + WRITTEN[at:], WRITTEN[:at] + sign + WRITTEN[at + 1:]]
            others.append(WRITTEN[:at] + WRITTEN[at + 1:])
        self.check_all(others)

    def test_more_signs_changed(self):
        chance = random.Random(65)
        others = []
        for _ in range(1500):
            text = write_judge(samples.some_judge(chance, chance.choice((0, 1, 3, 12)), chance.choice((1, 2, 5, 12))))
            for _ in range(chance.randrange(1, 3)):
                text = changed(chance, text)
            others.append(text)
        self.check_all(others)

    def check_all(self, others):
        good = 0
        for other in others:
            bad = first_bad(other)
            if bad is None:
                good += 1
                self.assertEqual(write_judge(read_judge(other)), other)
            else:
                check_error(self, BadNote(bad), read_judge, other)
        self.assertGreater(good, 10)


if __name__ == "__main__":
    unittest.main()
