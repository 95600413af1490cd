"""Points 62 and 65: write_paper and read_paper."""

import random
import unittest

from onceread.errors import BadLetter, BadNote, BadSide
from onceread.papernotes import read_paper, write_paper
from onceread.papers import paper
from onceread.settling import settled
from onceread.judges import Judge

from samples import CHAIN, DOWNWARDS, NO_PAPER, STEPS, check_error
from test_worldnotes import SIGNS, changed

WORDS = ("yes", "no", "taken", "never")
LINE = " ".join(["0"] * 20)


def first_bad(text):
    """The number of the first bad line, or None: each line has to be one that is written."""
    lines = text.split("\n")
    words = lines[0].split(" ")
    if len(words) != 3 or words[0] != "paper" or words[1] not in WORDS:
        return 1
    if not words[2] or set(words[2]) - set("0123456789") or words[2][0] == "0" and words[2] != "0":
        return 1
    left = int(words[2])
    letters = {str(letter) for letter in range(400)}
    for number, line in enumerate(lines[1:], 2):
        members = line.split(" ")
        if len(members) != min(20, left) or set(members) - letters:
            return number
        left -= len(members)
    return len(lines) + 1 if left else None


class Write(unittest.TestCase):
    def check(self, word, letters, *lines):
        text = "\n".join(lines)
        self.assertEqual(write_paper(word, letters), text)
        self.assertEqual(write_paper(word=word, letters=list(letters)), text)
        self.assertEqual(read_paper(text), (word, tuple(letters)))
        self.assertEqual(read_paper(text=text), (word, tuple(letters)))

    def test_small(self):
        for word in WORDS:
            self.check(word, (), "paper %s 0" % word)
            self.check(word, (399,), "paper %s 1" % word, "399")
            self.check(word, (0, 10, 2), "paper %s 3" % word, "0 10 2")
        self.check("no", NO_PAPER, "paper no 15", "0 0 1 0 1 1 2 0 0 1 1 2 1 1 2")

    def test_twenty_in_a_line(self):
        for number in (19, 20, 21, 39, 40, 41, 100, 101):
            letters = [letter * 7 % 400 for letter in range(number)]
            lines = [" ".join(map(str, letters[at:at + 20])) for at in range(0, number, 20)]
            self.check("yes", letters, "paper yes %d" % number, *lines)

    def test_papers(self):
        self.assertEqual(read_paper(write_paper(*paper(STEPS, CHAIN, values=DOWNWARDS))), ("no", NO_PAPER))
        found = settled(Judge(1, [("read", 0), ("refuse",)]), CHAIN)
        self.assertEqual(read_paper(write_paper(*found)), found)
        letters = tuple(letter % 400 for letter in range(100000))
        self.assertEqual(read_paper(write_paper("taken", letters)), ("taken", letters))

    def test_bad_side(self):
        for word in ("", "Yes", "yes ", "none", "paper", "1"):
            for letters in ((), (1, 2), (400,), (None,)):
                check_error(self, BadSide(word), write_paper, word, letters)

    def test_bad_letter(self):
        for wrong in (400, 401, -1, 10 ** 30, True, False, None, "0", "", (0,), [0], (), []):
            for letters in ((wrong,), (0, 399, wrong), [wrong, 0], (1, wrong, None, -1), (0,) * 50 + (wrong,)):
                check_error(self, BadLetter(wrong), write_paper, "never", letters)


class Read(unittest.TestCase):
    def check(self, line, *lines):
        text = "\n".join(lines)
        with self.subTest(text=text[:200]):
            self.assertEqual(first_bad(text), line)
            check_error(self, BadNote(line), read_paper, text)

    def test_first_line(self):
        for wrong in ("", "paper", "paper yes", "paper yes ", "paper yes -1", "paper yes 01", "paper yes +1", "paper yes 1 ",
                      "paper  yes 1", "paper yes  1", " paper yes 1", "Paper yes 1", "paper Yes 1", "paper maybe 1", "paper 1",
                      "paper yes one", "paper yes 1 1", "paper yes \u0661", "paper yes \u00b2", "paper\tyes 1", "yes 1", "paper yes 00"):
            self.check(1, wrong)
            self.check(1, wrong, "0")
            self.check(1, wrong, "")

    def test_letters(self):
        for wrong in ("", " ", "0", "0 1", "0 1 2 3", "0 1 400", "0 1 -1", "0 01 1", "0 1 +1", "0  1 2", " 0 1 2", "0 1 2 ",
                      "0 1 x", "0, 1, 2", "0 1 \u0661", "0 1 \u00b2", "0\t1 2", "0 1 2\r", "0 1 " + "3" * 5000, "0 1 1000"):
            self.check(2, "paper yes 3", wrong)
            self.check(2, "paper yes 3", wrong, "0")
            self.check(3, "paper yes 23", LINE, wrong)

    def test_lines(self):
        self.check(2, "paper yes 0", "")
        self.check(2, "paper yes 0", "0")
        self.check(2, "paper yes 1")
        self.check(3, "paper yes 1", "0", "")
        self.check(3, "paper yes 1", "0", "0")
        self.check(3, "paper yes 20", LINE, "")
        self.check(3, "paper yes 21", LINE)
        self.check(3, "paper yes 21", LINE, "")
        self.check(4, "paper yes 21", LINE, "0", "0")
        self.check(2, "paper yes 21", LINE + " 0")
        self.check(2, "paper yes 21", " ".join(["0"] * 19), "0 0")
        self.check(2, "paper yes 20", " ".join(["0"] * 10), " ".join(["0"] * 10))
        self.check(3, "paper yes 39", LINE, LINE)
        self.check(2, "paper yes 19", LINE)

    def test_great_numbers(self):
        # There are such papers, but here the text ends too early.
        for number in ("100000", "9" * 18, "1" + "0" * 18, "9" * 30):
            self.check(2, "paper no " + number)
            self.check(3, "paper no " + number, LINE)
            self.check(3, "paper no " + number, LINE, "0")
            self.check(4, "paper no " + number, LINE, LINE)
        for text, line in (("paper no " + "9" * 5000, 2), ("paper no " + "9" * 5000 + "\n" + LINE, 3),
                           ("paper no " + "9" * 5000 + "\n" + LINE + "\n0", 3), ("paper no 0" + "9" * 5000, 1)):
            check_error(self, BadNote(line), read_paper, text)

    def test_one_sign_changed(self):
        for text in (write_paper("never", tuple(range(90, 135))), write_paper("yes", (7,) * 21), "paper no 0"):
            others = []
            for at in range(len(text) + 1):
                for sign in SIGNS:
                    others += [text[:at] + sign + text[at:], text[:at] + sign + text[at + 1:]]
                others.append(text[:at] + text[at + 1:])
            self.check_all(others)

    def test_more_signs_changed(self):
        chance = random.Random(66)
        others = []
        for _ in range(2000):
            letters = [chance.choice((0, 1, 9, 10, 39, 99, 100, 399)) for _ in range(chance.choice((0, 1, 5, 20, 21, 45)))]
            text = write_paper(chance.choice(WORDS), letters)
            for _ in range(chance.randrange(1, 4)):
                text = changed(chance, text)
            others.append(text)
        self.check_all(others)

    def check_all(self, others):
        for other in others:
            bad = first_bad(other)
            if bad is None:
                self.assertEqual(write_paper(*read_paper(other)), other)
            else:
                check_error(self, BadNote(bad), read_paper, other)


if __name__ == "__main__":
    unittest.main()
