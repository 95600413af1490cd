"""Worlds, questions and judges that several tests use."""

import itertools

from onceread.errors import BadSide, BadValues, NoSuchRelation, NotAWalk, Unvalued
from onceread.judges import Judge
from onceread.questions import Question
from onceread.sentences import read_question
from onceread.worlds import World

ATOMS = ("rel", "same", "before", "next", "first", "last")
PAIR = World(2, [("edge", 2, [(0, 1)]), ("mark", 1, [(1,)])])
LOOSE = World(2, [("edge", 2, []), ("mark", 1, [(0,), (1,)])])
CHAIN = World(3, [("edge", 2, [(0, 1), (1, 2)]), ("mark", 1, [(1,)])])
STEPS = read_question("walk [a -> b: edge(a, b)] x -> y")
# The paper of the example in the document: 0 is not reached from 1.
NO_PAPER = (0, 0, 1, 0, 1, 1, 2, 0, 0, 1, 1, 2, 1, 1, 2)
UPWARDS, DOWNWARDS = (("x", 0), ("y", 2)), (("x", 1), ("y", 0))

# Questions with each word of point 10, also within one another.
TEXTS = (
    "edge(x, y)", "mark(x)", "x = y", "x < y", "next(x, y)", "first(x)", "last(x)",
    "not edge(x, y)", "not not x = y", "not (mark(x) and first(y))", "not (mark(x) or first(y))",
    "edge(x, y) and mark(y)", "edge(x, y) or mark(y)", "(x = y or x < y) and (mark(x) or mark(y))",
    "(x = y and mark(x)) or (x < y and mark(y))", "some a: edge(x, a)", "every a: edge(x, a)",
    "some a: every b: edge(a, b)", "every a: some b: (edge(a, b) or mark(b))", "not some a: not every b: a < b",
    "more a: edge(x, a) than b: edge(y, b)", "more a: mark(a) than a: (a = x or a = y)",
    "more a: (some b: edge(a, b)) than a: first(a)", "not more a: mark(a) than b: last(b)",
    "some a: more b: (mark(b) and b < a) than b: (edge(a, b) or edge(b, a))",
    "walk [a -> b: edge(a, b)] x -> y", "walk [a -> b: edge(a, b) or edge(b, a)] x -> y",
    "walk [a -> b: edge(b, a) and not mark(b)] x -> y", "walk [a -> b: some c: (edge(a, c) and b < c)] x -> y",
    "walk [a -> b: every c: (edge(a, b) or mark(c))] x -> y", "not walk [a -> b: next(a, b)] x -> y",
    "every a: walk [a -> b: edge(a, b)] x -> a", "some y: not walk [a -> b: edge(a, b)] x -> y",
    "walk [a -> b: not walk [a -> b: edge(a, b)] a -> b] x -> y",
    "walk [a -> b: walk [c -> d: next(c, d)] b -> a] x -> y",
    "walk [a -> b: more c: edge(a, c) than c: edge(c, b)] x -> y",
    "more a: (walk [a -> b: edge(a, b)] a -> x) than b: (walk [a -> b: edge(a, b)] y -> b)",
    "walk [a -> b: edge(a, b)] x -> x", "walk [a -> b: edge(a, b) and not a = y] x -> y",
)
WIDE_TEXTS = (
    "walk [a b -> c d: edge(a, c) and b = d] x y -> y y", "walk [a b -> c d: next(b, d)] x x -> y x",
    "walk [a b -> c d: (edge(a, d) or edge(c, b)) and a < c] x y -> y x",
)
QUESTIONS = tuple(read_question(text) for text in TEXTS)
WIDE = tuple(read_question(text) for text in WIDE_TEXTS)


def all_values(question, world):
    """All ways to let the free variables of a question stand for things."""
    return [tuple(zip(question.free, row)) for row in itertools.product(range(world.size), repeat=len(question.free))]


def all_letters(size, longest):
    """All rows of letters, the lesser one first."""
    return [row for length in range(longest + 1) for row in itertools.product(range(size), repeat=length)]


def some_world(chance, size):
    some = chance.choice((0.2, 0.4, 0.6))
    return World(size, [("edge", 2, [row for row in itertools.product(range(size), repeat=2) if chance.random() < some]),
                        ("mark", 1, [(thing,) for thing in range(size) if chance.random() < 0.5])])


def some_tree(chance, depth):
    names = ("x", "y", "a", "b", "c")

    def name():
        return chance.choice(names)

    if depth <= 1 or chance.random() < 0.15:
        word = chance.choice(ATOMS + ("rel", "rel", "rel"))
        if word == "rel":
            return chance.choice((("rel", "edge", (name(), name())), ("rel", "mark", (name(),))))
        return (word, name()) if word in ("first", "last") else (word, name(), name())
    word = chance.choice(("not", "and", "or", "some", "every", "more", "walk", "walk"))
    one = some_tree(chance, depth - 1)
    if word == "not":
        return word, one
    if word in ("some", "every"):
        return word, name(), one
    two = some_tree(chance, depth - 1)
    if word in ("and", "or"):
        return word, one, two
    if word == "more":
        return word, name(), one, name(), two
    width = chance.choice((1, 1, 1, 2))
    bound = chance.sample(names, 2 * width)
    ends = [tuple(name() for _ in range(width)) for _ in range(2)]
    return (word, tuple(bound[:width]), tuple(bound[width:]), one) + tuple(ends)


def some_question(chance, depth):
    return Question(some_tree(chance, depth))


def some_values(chance, question, world):
    return tuple((name, chance.randrange(world.size)) for name in question.free)


def damaged(chance, letters, size):
    """The same letters, but for a few."""
    made = list(letters)
    for _ in range(chance.choice((1, 1, 2))):
        at = chance.randrange(len(made) + 1)
        way = chance.random()
        if way < 0.3:
            made.insert(at, chance.randrange(size))
        elif made and way < 0.7:
            made[min(at, len(made) - 1)] = chance.randrange(-1, size + 1)
        elif made:
            del made[min(at, len(made) - 1)]
    return tuple(made)


def some_judge(chance, registers, lines, takes=True):
    def line():
        return chance.randrange(lines)

    def register():
        return chance.randrange(registers)

    words = ["claim", "claim", "go", "refuse"] + ["take"] * takes
    if registers:
        words += ["read", "read", "read", "zero", "copy", "step", "first", "same", "fact"]
    made = []
    for _ in range(lines - 1):
        word = chance.choice(words)
        if word in ("read", "zero"):
            made.append((word, register()))
        elif word == "copy":
            made.append((word, register(), register()))
        elif word in ("step", "first"):
            made.append((word, register(), line()))
        elif word == "same":
            made.append((word, register(), register(), line()))
        elif word == "fact":
            made.append((word, "edge", (register(), register()), line()))
        else:
            made.append((word, line()) if word in ("claim", "go") else (word,))
    made.append(chance.choice([("go", line()), ("refuse",)] + [("take",)] * takes))
    return Judge(registers, made, chance.randrange(registers + 1))


def check_error(test, error, function, *told, **more):
    """The function raises just this error: a class, or an error with the fields that it has to have."""
    wanted = error if isinstance(error, type) else type(error)
    with test.assertRaises(wanted) as caught:
        function(*told, **more)
    test.assertIs(type(caught.exception), wanted)
    if wanted is not error:
        test.assertEqual(vars(caught.exception), vars(error))


def check_question_errors(test, ask, side=False, walk=False):
    """The errors of point 18 in their order, where ask(question, world, values) calls the function.

    With a side, ask takes it as its last argument, and BadSide comes before all errors. For a
    function about walks, NotAWalk does.
    """
    wide = read_question("walk [a -> b: zulu(a, b) or alfa(b)] y -> x")
    plain = read_question("zulu(x, y) or alfa(y)")
    question = wide if walk else plain
    good = (("alfa", 1, []), ("zulu", 2, []))
    more = ("yes",) if side else ()
    for relations, name in (((), "alfa"), (good[1:], "alfa"), (good[:1], "zulu"), ((("alfa", 2, []), good[1]), "alfa"),
                            ((good[0], ("zulu", 3, [])), "zulu"), ((good[0], ("zulu", 1, [])), "zulu")):
        for values in ((), (("x", 0), ("y", 1)), None, (("x", 5),), (("x", 0), ("x", 0))):
            check_error(test, NoSuchRelation(name), ask, question, World(2, relations), values, *more)
    world = World(2, good)
    for wrong in (None, 7, True, "xy", (None,), ("x", 0), (("x", 0, 0),), (("x",),), (("x", 2),), (("x", -1),),
                  (("x", True),), (("x", "0"),), ((0, "x"),), (("not", 0),), (("X", 0),), (("x", 0), ("x", 0)),
                  (("x", 0), ("y", 1), ("z", 2)), (("z", 0), ("z", 1)), (("x", 0), ("y", 0), None)):
        check_error(test, BadValues, ask, question, world, wrong, *more)
    check_error(test, Unvalued("x"), ask, question, world, (), *more)
    check_error(test, Unvalued("x"), ask, question, world, (("y", 0), ("z", 1)), *more)
    check_error(test, Unvalued("y"), ask, question, world, [["x", 0], ["a", 1]], *more)
    if side:
        for wrong in ("", "Yes", "yes ", "taken", "never", "y"):
            check_error(test, BadSide(wrong), ask, question, World(2), None, wrong)
    if walk:
        for other in (plain, read_question("not walk [a -> b: zulu(a, b)] y -> x"), read_question("some x: first(x)")):
            check_error(test, NotAWalk, ask, other, World(2), None, *more)
