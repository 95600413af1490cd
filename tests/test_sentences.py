"""Points 15 to 17: questions as texts."""

import random
import unittest

from onceread.errors import BadQuestion, BadText
from onceread.questions import Question
from onceread.sentences import read_question, write_question

A, B = ("first", "x"), ("rel", "edge", ("x", "y"))
WALK = ("walk", ("a", "b"), ("c", "d"), B, ("x", "y"), ("z", "w"))
RESERVED = ("some", "every", "not", "and", "or", "walk", "more", "than", "first", "last", "next")
# The rules of point 16 with one symbol for each of them. NAME is any name.
RULES = {
    "question": [["part"], ["question", "or", "part"]],
    "part": [["unit"], ["part", "and", "unit"]],
    "unit": [["not", "unit"], ["some", "NAME", ":", "question"], ["every", "NAME", ":", "question"],
             ["more", "NAME", ":", "question", "than", "NAME", ":", "question"],
             ["walk", "[", "names", "->", "names", ":", "question", "]", "names", "->", "names"],
             ["(", "question", ")"], ["first", "(", "NAME", ")"], ["last", "(", "NAME", ")"],
             ["next", "(", "NAME", ",", "NAME", ")"], ["NAME", "(", "listed", ")"],
             ["NAME", "=", "NAME"], ["NAME", "<", "NAME"]],
    "names": [["NAME"], ["names", "NAME"]],
    "listed": [["NAME"], ["listed", ",", "NAME"]],
}


def is_name(word):
    return word.isalnum() and not word[0].isdigit() and len(word) <= 12 and word not in RESERVED


def bad_token(words):
    """The number of the first word that cannot stand where it stands; len(words) if the text ends too early;
    None if it is a question. All rules are followed at once (the method of Earley)."""
    column = {("question", tuple(rule), 0, 0) for rule in RULES["question"]}
    columns = []
    for at in range(len(words) + 1):
        work = list(column)
        while work:
            head, rule, dot, origin = work.pop()
            if dot == len(rule):
                found = [(other, told, place + 1, begun) for other, told, place, begun
                         in (column if origin == at else columns[origin])
                         if place < len(told) and told[place] == head]
            elif rule[dot] in RULES:
                found = [(rule[dot], tuple(told), 0, at) for told in RULES[rule[dot]]]
            else:
                found = []
            for item in found:
                if item not in column:
                    column.add(item)
                    work.append(item)
        columns.append(column)
        if at == len(words):
            done = any(head == "question" and dot == len(rule) and origin == 0
                       for head, rule, dot, origin in column)
            return None if done else at
        word = words[at]
        column = {(head, rule, dot + 1, origin) for head, rule, dot, origin in column
                  if dot < len(rule) and (rule[dot] == word or rule[dot] == "NAME" and is_name(word))}
        if not column:
            return at


def joined(words, chance=None):
    """The words as a text, with the place of each and at last the length. With blanks only where they are
    needed, or with some more."""
    text, places = "", []
    for word in words:
        if text and text[-1].isalnum() and word[0].isalnum():
            text += " "
        if chance:
            text += chance.choice(("", "", " ", "\n", "  \n "))
        places.append(len(text))
        text += word
    if chance:
        text += chance.choice(("", " ", "\n"))
    return text, places + [len(text)]


def some_tree(chance, depth):
    word = chance.choice(("rel", "same", "before", "next", "first", "last", "not", "and", "or", "some", "every",
                          "more", "walk", "and", "or", "not"))

    def name():
        return chance.choice(("x", "y", "z1", "rel", "same", "abcdefghijk1"))

    if word == "rel":
        many = chance.randrange(1, 4)
        return ("rel", "edge" + str(many), tuple(name() for _ in range(many)))
    if word in ("first", "last"):
        return (word, name())
    if word in ("same", "before", "next") or depth == 1:
        return (word if word in ("same", "before", "next") else "same", name(), name())
    one, two = some_tree(chance, depth - 1), some_tree(chance, depth - 1)
    if word == "not":
        return ("not", one)
    if word in ("some", "every"):
        return (word, name(), one)
    if word == "more":
        return ("more", name(), one, name(), two)
    if word == "walk":
        width = chance.randrange(1, 4)
        names = chance.sample(("a", "b", "c", "d", "e", "f", "g0", "x"), 2 * width)
        return ("walk", tuple(names[:width]), tuple(names[width:]), one,
                tuple(name() for _ in range(width)), tuple(name() for _ in range(width)))
    return (word, one, two)


class Writing(unittest.TestCase):
    def check(self, tree, text):
        with self.subTest(text=text):
            self.assertEqual(write_question(Question(tree)), text)
            self.assertEqual(read_question(text).tree, tree)

    def test_atoms(self):
        self.check(("rel", "mark", ("x",)), "mark(x)")
        self.check(("rel", "edge", ("v", "w")), "edge(v, w)")
        self.check(("rel", "tri", ("v", "w", "v")), "tri(v, w, v)")
        self.check(("same", "v", "w"), "v = w")
        self.check(("before", "v", "w"), "v < w")
        self.check(("next", "v", "w"), "next(v, w)")
        self.check(("first", "v"), "first(v)")
        self.check(("last", "v"), "last(v)")

    def test_not(self):
        self.check(("not", A), "not first(x)")
        self.check(("not", ("same", "x", "y")), "not x = y")
        self.check(("not", ("not", B)), "not not edge(x, y)")
        self.check(("not", WALK), "not walk [a b -> c d: edge(x, y)] x y -> z w")
        self.check(("not", ("and", A, B)), "not (first(x) and edge(x, y))")
        self.check(("not", ("or", A, B)), "not (first(x) or edge(x, y))")
        self.check(("not", ("some", "x", A)), "not (some x: first(x))")
        self.check(("not", ("every", "x", A)), "not (every x: first(x))")
        self.check(("not", ("more", "x", A, "y", B)), "not (more x: (first(x)) than y: (edge(x, y)))")

    def test_and_and_or(self):
        self.check(("and", A, B), "first(x) and edge(x, y)")
        self.check(("or", A, B), "first(x) or edge(x, y)")
        self.check(("and", ("and", A, B), A), "(first(x) and edge(x, y)) and first(x)")
        self.check(("and", A, ("and", B, A)), "first(x) and (edge(x, y) and first(x))")
        self.check(("or", ("or", A, B), A), "(first(x) or edge(x, y)) or first(x)")
        self.check(("or", ("and", A, B), A), "(first(x) and edge(x, y)) or first(x)")
        self.check(("and", ("or", A, B), ("not", A)), "(first(x) or edge(x, y)) and not first(x)")
        self.check(("or", WALK, ("not", B)), "walk [a b -> c d: edge(x, y)] x y -> z w or not edge(x, y)")
        self.check(("and", ("some", "x", A), ("every", "y", B)), "(some x: first(x)) and (every y: edge(x, y))")
        self.check(("or", A, ("more", "x", A, "y", B)), "first(x) or (more x: (first(x)) than y: (edge(x, y)))")

    def test_bindings(self):
        self.check(("some", "v", A), "some v: first(x)")
        self.check(("every", "v", ("and", A, B)), "every v: first(x) and edge(x, y)")
        self.check(("some", "v", ("every", "w", ("some", "x", A))), "some v: every w: some x: first(x)")
        self.check(("more", "v", A, "w", B), "more v: (first(x)) than w: (edge(x, y))")
        self.check(("more", "v", ("or", A, B), "v", ("some", "w", A)),
                   "more v: (first(x) or edge(x, y)) than v: (some w: first(x))")

    def test_walks(self):
        self.check(("walk", ("a",), ("b",), B, ("x",), ("y",)), "walk [a -> b: edge(x, y)] x -> y")
        self.check(WALK, "walk [a b -> c d: edge(x, y)] x y -> z w")
        self.check(("walk", ("a",), ("b",), ("or", A, WALK), ("x",), ("x",)),
                   "walk [a -> b: first(x) or walk [a b -> c d: edge(x, y)] x y -> z w] x -> x")
        self.check(("walk", ("a",), ("b",), ("some", "v", A), ("x",), ("x",)),
                   "walk [a -> b: some v: first(x)] x -> x")

    def test_names_like_the_words_of_trees(self):
        self.check(("rel", "rel", ("same", "before")), "rel(same, before)")
        self.check(("rel", "same", ("x", "y")), "same(x, y)")

    def test_random_trees_come_back(self):
        chance = random.Random(16)
        for _ in range(400):
            tree = some_tree(chance, 5)
            self.assertEqual(read_question(write_question(Question(tree))).tree, tree)


class Reading(unittest.TestCase):
    def check(self, text, tree):
        with self.subTest(text=text):
            found = read_question(text)
            self.assertIsInstance(found, Question)
            self.assertEqual(found.tree, tree)

    def test_grouping(self):
        p, q, r, s = (("same", name, name) for name in "pqrs")
        self.check("p=p and q=q and r=r", ("and", ("and", p, q), r))
        self.check("p=p or q=q or r=r or s=s", ("or", ("or", ("or", p, q), r), s))
        self.check("p=p or q=q and r=r", ("or", p, ("and", q, r)))
        self.check("p=p and q=q or r=r and s=s", ("or", ("and", p, q), ("and", r, s)))
        self.check("(p=p or q=q) and r=r", ("and", ("or", p, q), r))
        self.check("p=p and (q=q and r=r)", ("and", p, ("and", q, r)))
        self.check("not p=p and q=q", ("and", ("not", p), q))
        self.check("not (p=p and q=q)", ("not", ("and", p, q)))
        self.check("not not (not p=p)", ("not", ("not", ("not", p))))

    def test_behind_a_colon(self):
        p, q, r = (("same", name, name) for name in "pqr")
        self.check("some x: p=p or q=q", ("some", "x", ("or", p, q)))
        self.check("p=p and some x: q=q or r=r", ("and", p, ("some", "x", ("or", q, r))))
        self.check("p=p or every x: q=q and r=r", ("or", p, ("every", "x", ("and", q, r))))
        self.check("(some x: p=p) or q=q", ("or", ("some", "x", p), q))
        self.check("not some x: p=p and q=q", ("not", ("some", "x", ("and", p, q))))
        self.check("more x: p=p or q=q than y: q=q and r=r", ("more", "x", ("or", p, q), "y", ("and", q, r)))
        self.check("more x: more y: p=p than z: q=q than w: r=r or p=p",
                   ("more", "x", ("more", "y", p, "z", q), "w", ("or", r, p)))
        self.check("more x: some y: p=p than z: q=q", ("more", "x", ("some", "y", p), "z", q))
        self.check("(more x: p=p than y: q=q) or r=r", ("or", ("more", "x", p, "y", q), r))

    def test_walks(self):
        p, q = ("same", "p", "p"), ("same", "q", "q")
        self.check("walk [a -> b: p=p or q=q] x -> y and q=q",
                   ("and", ("walk", ("a",), ("b",), ("or", p, q), ("x",), ("y",)), q))
        self.check("not walk [a->b:p=p]x->y or q=q",
                   ("or", ("not", ("walk", ("a",), ("b",), p, ("x",), ("y",))), q))

    def test_blanks(self):
        tree = ("and", ("not", ("rel", "e", ("x", "y"))), ("more", "v", A, "w", ("walk", ("a", "b"), ("c", "d"), (
            "next", "x", "y"), ("x", "y"), ("z", "w"))))
        for text in ("not e(x,y)and more v:first(x)than w:walk[a b->c d:next(x,y)]x y->z w",
                     "\n not\ne ( x , y )  and more\n\nv : ( first ( x ) ) than w : walk [ a b -> c\nd : next ( x ,"
                     " y ) ] x\n\n y -> z   w \n",
                     "not(e(x,y))and(more v:(first(x))than w:(walk[a b->c d:next(x,y)]x y->z w))"):
            self.check(text, tree)
        self.check("x=y", ("same", "x", "y"))
        self.check(" x<y ", ("before", "x", "y"))
        self.check("\nx\n<\ny\n", ("before", "x", "y"))

    def test_longest_words(self):
        self.check("notx = somey", ("same", "notx", "somey"))
        self.check("firsts(x)", ("rel", "firsts", ("x",)))
        self.check("not1 < walk0", ("before", "not1", "walk0"))

    def test_random_words(self):
        chance = random.Random(17)
        for _ in range(300):
            tree = some_tree(chance, 4)
            text = write_question(Question(tree))
            words = text.replace("(", " ( ").replace(")", " ) ").replace("[", " [ ").replace("]", " ] ")
            words = words.replace(",", " , ").replace(":", " : ").split()
            self.assertEqual(read_question(joined(words)[0]).tree, tree)
            self.assertEqual(read_question(joined(words, chance)[0]).tree, tree)


class BadTexts(unittest.TestCase):
    def bad(self, text, place):
        with self.subTest(text=text):
            with self.assertRaises(BadText) as caught:
                read_question(text)
            self.assertEqual(caught.exception.place, place)

    def test_signs_that_belong_to_no_token(self):
        self.bad("x = Y", 4)
        self.bad("x\t= y", 1)
        self.bad("x = y\r\n", 5)
        self.bad("x = \u00e9", 4)
        self.bad("\u00a0x = y", 0)
        self.bad("x = y\u2028", 5)
        self.bad("x = y\u0660", 5)
        self.bad("x \u0430 y", 2)
        self.bad("x = y.", 5)
        self.bad("x != y", 2)
        self.bad("x_y = z", 1)
        self.bad("p(x) & q(y)", 5)
        self.bad("{x = y}", 0)
        self.bad("x = y \x00", 6)
        self.bad("x = y \x0b", 6)

    def test_arrows(self):
        for text, place in (("walk [a - > b: x = y] x -> y", 8), ("walk [a > b: x = y] x -> y", 8),
                            ("walk [a - b: x = y] x -> y", 8), ("walk [a --> b: x = y] x -> y", 8),
                            ("walk [a ->> b: x = y] x -> y", 10), ("walk [a -> b: x = y] x -", 23),
                            (">- x", 0), ("x > y", 2), ("x - y", 2), ("-", 0), (">", 0), ("-\n>", 0)):
            self.bad(text, place)

    def test_signs_come_before_tokens(self):
        self.bad(") ) #", 4)
        self.bad("some some: x = y and Z", 21)
        self.bad("x = y z = w -", 12)
        self.bad("not " * 70 + "x = y;", 285)

    def test_ends_too_early(self):
        for text in ("", " ", "\n\n ", "not", "not ", "some", "some x", "some x:", "x", "x =", "x < ", "e(", "e(x", "e(x,",
                     "(", "(x = y", "x = y and", "x = y or ", "first", "first(", "first(x", "next(x", "next(x,",
                     "next(x, y", "more", "more x", "more x:", "more x: x = y", "more x: x = y than",
                     "more x: x = y than y", "more x: x = y than y:", "walk", "walk [", "walk [a", "walk [a ->",
                     "walk [a -> b", "walk [a -> b:", "walk [a -> b: x = y", "walk [a -> b: x = y]",
                     "walk [a -> b: x = y] x", "walk [a -> b: x = y] x ->"):
            self.bad(text, len(text))
            self.bad(text + "  \n", len(text) + 3)

    def test_tokens_that_cannot_stand_there(self):
        self.bad("x = y z", 6)
        self.bad("x = y)", 5)
        self.bad("(x = y]", 6)
        self.bad("e()", 2)
        self.bad("e(x,)", 4)
        self.bad("e(x y)", 4)
        self.bad("e(x = y)", 4)
        self.bad("next(x)", 6)
        self.bad("next(x, y, z)", 9)
        self.bad("first(x, y)", 7)
        self.bad("first x", 6)
        self.bad("first = x", 6)
        self.bad("last < x", 5)
        self.bad("= x", 0)
        self.bad("x y", 2)
        self.bad("x: y", 1)
        self.bad("x = first(y)", 4)
        self.bad("x = (y)", 4)
        self.bad("some (x): x = y", 5)
        self.bad("some x y: x = y", 7)
        self.bad("some x, y: x = y", 6)
        self.bad("some x = y", 7)
        self.bad("more x: x = y and y = y", 23)
        self.bad("more x: x = y : y = y", 14)
        self.bad("(more x: x = y) than y: y = y", 14)
        self.bad("more x: (x = y than y: y = y)", 15)
        self.bad("x = y than y = y", 6)
        self.bad("some x: x = y than", 14)
        self.bad("walk a -> b: x = y] x -> y", 5)
        self.bad("walk [a b: x = y] x -> y", 9)
        self.bad("walk [a, b -> c: x = y] x -> y", 7)
        self.bad("walk [-> b: x = y] x -> y", 6)
        self.bad("walk [a -> b x = y] x -> y", 15)
        self.bad("walk [a -> b -> c: x = y] x -> y", 13)
        self.bad("walk [a -> b: x = y) x -> y", 19)
        self.bad("walk [a -> b: x = y] (x) -> y", 21)
        self.bad("walk [a -> b: x = y] x -> y z = z", 30)
        self.bad("walk [a -> b: x = y] x -> y -> z", 28)
        self.bad("walk [a -> b: x = y] x -> y z(x)", 29)
        self.bad("x = y and or y = x", 10)
        self.bad("x = y not y = x", 6)
        self.bad("and x = y", 0)
        self.bad("x = y or", 8)
        self.bad("x = y,", 5)
        self.bad("()", 1)
        self.bad("x -> y", 2)

    def test_reserved_words_are_no_names(self):
        for word in RESERVED:
            self.bad("some " + word + ": x = y", 5)
            self.bad("x = " + word, 4)
            self.bad("x < " + word, 4)
            self.bad("e(" + word + ")", 2)
            self.bad("e(x, " + word + ")", 5)
            self.bad("first(" + word + ")", 6)
            self.bad("next(x, " + word + ")", 8)
            self.bad("walk [a " + word + " -> c d: x = y] x y -> x y", 8)
            self.bad("walk [a -> " + word + ": x = y] x -> y", 11)
            self.bad("more x: x = y than " + word + ": x = y", 19)

    def test_words_that_are_neither(self):
        for word in ("abcdefghijklm", "1", "0a", "9first", "somesomesomes"):
            self.bad(word + " = x", 0)
            self.bad(word + "(x)", 0)
            self.bad("x = " + word, 4)
            self.bad("x = y " + word, 6)
            self.bad("not " + word, 4)
            self.bad("walk [a " + word + " -> c d: x = y] x y -> x y", 8)
            self.bad("walk [a -> b: x = y] x -> y " + word, 28)
            self.bad("(" + word, 1)

    def test_places_count_signs(self):
        self.bad("\n\n  x =\n\n )", 10)
        self.bad(" \n x = abcdefghijklm", 7)

    def test_random_tokens(self):
        chance = random.Random(18)
        signs = ("x", "y", "e1", "(", ")", "[", "]", ",", ":", "=", "<", "->", "not", "some", "every", "more", "than",
                 "walk", "first", "last", "next", "and", "or", "0x", "toolonganame0")
        for _ in range(1500):
            tree = some_tree(chance, 3)
            text = write_question(Question(tree)).replace("(", " ( ").replace(")", " ) ").replace("[", " [ ")
            words = text.replace("]", " ] ").replace(",", " , ").replace(":", " : ").split()
            for _ in range(chance.randrange(1, 3)):
                at = chance.randrange(len(words) + 1)
                words[at:at + chance.randrange(3)] = [chance.choice(signs) for _ in range(chance.randrange(2))]
            text, places = joined(words, chance if chance.random() < 0.5 else None)
            expected = bad_token(words)
            with self.subTest(text=text):
                if expected is None:
                    try:
                        read_question(text)
                    except BadQuestion:
                        pass
                else:
                    with self.assertRaises(BadText) as caught:
                        read_question(text)
                    self.assertEqual(caught.exception.place, places[expected])


class NestedUnits(unittest.TestCase):
    WRAPS = (("(", ")"), ("some x: ", ""), ("every x:", ""), ("not ", ""), ("more x: ", " than y: x = y"),
             ("more x: y = y than y: ", ""), ("walk [a -> b: ", "] x -> y"), ("x = y and (", ")"), ("x < y or (", ")"))

    def test_brackets(self):
        text = "(" * 59 + "x = y" + ")" * 59
        self.assertEqual(read_question(text).tree, ("same", "x", "y"))
        for many in (60, 61, 100, 3000):
            with self.assertRaises(BadText) as caught:
                read_question("(" * many + "x = y" + ")" * many)
            self.assertEqual(caught.exception.place, 60)

    def test_each_unit(self):
        for before, behind in self.WRAPS:
            with self.subTest(unit=before):
                text = "(" * 29 + before + "(" * 29 + "x = y" + ")" * 29 + behind + ")" * 29
                self.assertIsInstance(read_question(text), Question)
                text = "(" * 29 + before + "(" * 30 + "x = y" + ")" * 30 + behind + ")" * 29
                with self.assertRaises(BadText) as caught:
                    read_question(text)
                self.assertEqual(caught.exception.place, 29 + len(before) + 30)

    def test_deep_units_of_one_kind(self):
        for before, behind in self.WRAPS[1:]:
            for many in (60, 61, 500):
                with self.subTest(unit=before, many=many):
                    text = before * many + "z = z" + behind * many
                    # In the last of these units, the part before `than` is the first that is too deep.
                    place = 59 * len(before) + 8 if "than" in before else 60 * len(before)
                    with self.assertRaises(BadText) as caught:
                        read_question(text)
                    self.assertEqual(caught.exception.place, place)
                    with self.assertRaises(BadQuestion):
                        read_question(before * 59 + "z = z" + behind * 59)

    def test_any_first_token(self):
        for text in ("x = y", "first(x)", "not x = y", "some x: x = y", "(x = y)", "walk [a -> b: x = y] x -> y",
                     "more x: x = x than y: x = y", ")", "0x", "and"):
            with self.assertRaises(BadText) as caught:
                read_question("(" * 60 + text + ")" * 60)
            self.assertEqual(caught.exception.place, 60)

    def test_errors_before_the_deep_unit_come_first(self):
        for text, place in (("x = = y and " + "(" * 70, 4), ("(" * 60, 60), ("(" * 59 + "x", 60), ("(" * 58 + ")", 58)):
            with self.assertRaises(BadText) as caught:
                read_question(text)
            self.assertEqual(caught.exception.place, place)

    def test_many_units_side_by_side(self):
        text = " and ".join(["x = y"] * 40)
        self.assertEqual(len(read_question(text).free), 2)
        inner = "(" * 58 + "x = y" + ")" * 58
        self.assertEqual(read_question("(" + inner + " or " + inner + ")").tree,
                         ("or", ("same", "x", "y"), ("same", "x", "y")))


class BadQuestions(unittest.TestCase):
    def test_whole_tree(self):
        for text in ("walk [a b -> c: x = y] x y -> x y", "walk [a -> b: x = y] x y -> x",
                     "walk [a -> b: x = y] x -> x y", "walk [a -> a: x = y] x -> y",
                     "walk [a b -> c a: x = y] x x -> y y", "e(x, y, z, w)", "e(x) and e(x, y)",
                     " and ".join(["x = y"] * 41), " or ".join(["x = y"] * 41), "not " * 40 + "x = y",
                     " or ".join(["x = y"] * 12000), " and ".join(["x = y"] * 3000)):
            with self.subTest(text=text[:80]):
                self.assertRaises(BadQuestion, read_question, text)

    def test_widths(self):
        def text(width):
            left = " ".join("a" + str(at) for at in range(width))
            right = " ".join("b" + str(at) for at in range(width))
            return "walk [" + left + " -> " + right + ": x = y] " + "x " * width + "-> " + "y " * width

        self.assertEqual(len(read_question(text(60)).tree[1]), 60)
        self.assertRaises(BadQuestion, read_question, text(61))

    def test_texts_come_first(self):
        with self.assertRaises(BadText) as caught:
            read_question("e(x, y, z, w) and")
        self.assertEqual(caught.exception.place, 17)


class Deep(unittest.TestCase):
    ATOM = ("same", "x", "y")

    def chain(self, many, *wraps):
        tree = self.ATOM
        for at in range(many):
            tree = wraps[at % len(wraps)](tree)
        return Question(tree)

    def test_deep_trees_come_back(self):
        def deny(tree):
            return ("not", tree)

        def some(tree):
            return ("some", "x", tree)

        def both(tree):
            return ("and", tree, self.ATOM)

        def either(tree):
            return ("or", self.ATOM, tree)

        for wraps in ((deny,), (some,), (both,), (either,), (deny, some), (both, deny), (some, both), (either, both),
                      (deny, some, either)):
            question = self.chain(39, *wraps)
            self.assertEqual(read_question(write_question(question)), question)

    def test_too_deep_to_read_back(self):
        def more(tree):
            return ("more", "v", tree, "w", self.ATOM)

        question = self.chain(29, more)
        self.assertEqual(read_question(write_question(question)), question)
        for many in (30, 31, 39):
            with self.assertRaises(BadText) as caught:
                read_question(write_question(self.chain(many, more)))
            self.assertEqual(caught.exception.place, 30 * len("more v: ("))


if __name__ == "__main__":
    unittest.main()
