"""Points 54 to 58: Desk, Trial and perform."""

import random
import unittest

from onceread.desks import Desk, Trial, perform
from onceread.errors import (BadDeed, BadRow, BadValues, NoSuchRelation, NothingToUndo, OnceError, TakenName, TooLong,
                             UnknownWatch, Unvalued)
from onceread.grammar import is_right
from onceread.papers import paper
from onceread.resting import rests_on
from onceread.sentences import read_question
from onceread.worlds import World

import samples
from samples import CHAIN, DOWNWARDS, STEPS, UPWARDS, check_error

SOME_MARK = read_question("some a: mark(a)")
EDGE = read_question("edge(x, y)")
# In a world of 20 things its yes is short, and its no is too long.
WIDE = read_question("walk [a b -> c d: edge(a, c) and edge(b, d)] x x -> y y")
TWENTY = World(20, [("edge", 2, [(0, 1)]), ("mark", 1, [])])
NO_LENGTH = 1 + 399 * (1 + 400 + 1)


def told(desk):
    """All that a desk tells."""
    kept = [(name, desk.answer(name), desk.letters(name), desk.made(name)) for name in desk.watches]
    return desk.world, desk.watches, desk.edits, kept


class Model:
    """Points 54 to 56, said plainly. The tests compare a desk with it."""

    def __init__(self, world):
        self.world, self.done, self.kept = world, [], {}

    def copy(self):
        made = Model(self.world)
        made.done, made.kept = list(self.done), dict(self.kept)
        return made

    def watch(self, name, question, values):
        self.kept[name] = (question, values) + paper(question, self.world, values=values) + (1,)

    def edit(self, word, name, row):
        after = getattr(self.world, word)(name, row)
        if after == self.world:
            return None
        anew = []
        for key, (question, values, side, letters, made) in sorted(self.kept.items()):
            facts = [(one, looked) for one, looked, _ in rests_on(question, side, self.world, letters, values)]
            if (name, row) in facts:
                self.kept[key] = (question, values) + paper(question, after, values=values) + (made + 1,)
                anew.append(key)
        self.world = after
        return tuple(anew)

    def put_or_drop(self, word, name, row):
        anew = self.edit(word, name, row)
        if anew is None:
            return ()
        self.done.append((word, name, row))
        return anew

    def undo(self):
        word, name, row = self.done.pop()
        return self.edit({"put": "drop", "drop": "put"}[word], name, row)

    def told(self):
        kept = [(name,) + self.kept[name][2:] for name in sorted(self.kept)]
        return self.world, tuple(sorted(self.kept)), len(self.done), kept


class Watching(unittest.TestCase):
    def test_new_desk(self):
        desk = Desk(CHAIN)
        self.assertEqual(told(desk), (CHAIN, (), 0, []))
        self.assertEqual(Desk(world=CHAIN).world, CHAIN)

    def test_watch(self):
        desk = Desk(CHAIN)
        self.assertIsNone(desk.watch("up", STEPS, UPWARDS))
        self.assertIsNone(desk.watch("down", STEPS, [list(pair) for pair in DOWNWARDS]))
        self.assertIsNone(desk.watch(name="a mark", question=SOME_MARK))
        self.assertEqual(desk.watches, ("a mark", "down", "up"))
        for name, question, values in (("up", STEPS, UPWARDS), ("down", STEPS, DOWNWARDS), ("a mark", SOME_MARK, ())):
            side, letters = paper(question, CHAIN, values=values)
            self.assertEqual(desk.answer(name), side)
            self.assertEqual(desk.letters(name=name), letters)
            self.assertIsInstance(desk.letters(name), tuple)
            self.assertEqual(desk.made(name), 1)
        self.assertEqual(desk.edits, 0)
        self.assertEqual(desk.answer("up"), "yes")
        self.assertEqual(desk.letters("up"), (1, 2))
        self.assertEqual(desk.answer("down"), "no")
        self.assertEqual(desk.letters("down"), samples.NO_PAPER)

    def test_any_text_is_a_name(self):
        desk = Desk(CHAIN)
        names = ["", "Z", "walk", "a very long name of a watch", "z", "A", "0", " "]
        for name in names:
            desk.watch(name, SOME_MARK)
        self.assertEqual(desk.watches, tuple(sorted(names)))

    def test_values_are_kept(self):
        values = [["x", 0], ["y", 1]]
        desk = Desk(CHAIN)
        desk.watch("edge", EDGE, values)
        values[0][1] = 2
        del values[1]
        self.assertEqual(desk.drop("edge", (0, 1)), ("edge",))
        self.assertEqual(desk.answer("edge"), "no")

    def test_unwatch(self):
        desk = Desk(CHAIN)
        desk.watch("one", SOME_MARK)
        desk.watch("two", STEPS, UPWARDS)
        desk.put("edge", (0, 2))
        self.assertIsNone(desk.unwatch(name="one"))
        self.assertEqual(desk.watches, ("two",))
        self.assertEqual(desk.edits, 1)
        for ask in (desk.answer, desk.letters, desk.made, desk.unwatch):
            check_error(self, UnknownWatch("one"), ask, "one")
        # Watched again, it begins anew.
        desk.watch("one", EDGE, (("x", 0), ("y", 2)))
        self.assertEqual(desk.made("one"), 1)
        self.assertEqual(desk.answer("one"), "yes")

    def test_unknown(self):
        desk = Desk(CHAIN)
        desk.watch("up", STEPS, UPWARDS)
        before = told(desk)
        for ask in (desk.answer, desk.letters, desk.made, desk.unwatch):
            for name in ("", "Up", "up ", "down", "edge"):
                check_error(self, UnknownWatch(name), ask, name)
        self.assertEqual(told(desk), before)

    def test_errors_of_watch(self):
        desk = Desk(CHAIN)
        desk.watch("up", STEPS, UPWARDS)
        before = told(desk)
        other = read_question("zulu(x) and edge(x, y)")
        # The name that is taken comes first.
        for question, values in ((STEPS, UPWARDS), (STEPS, ()), (other, None), (STEPS, None)):
            check_error(self, TakenName("up"), desk.watch, "up", question, values)
        check_error(self, NoSuchRelation("zulu"), desk.watch, "new", other, None)
        check_error(self, NoSuchRelation("mark"), desk.watch, "new", read_question("mark(x, x)"))
        for values in (None, (("x", 3),), (("x", 0), ("x", 0)), (("x", 0), None), ((True, 0),)):
            check_error(self, BadValues, desk.watch, "new", STEPS, values)
        check_error(self, Unvalued("x"), desk.watch, "new", STEPS)
        check_error(self, Unvalued("y"), desk.watch, "new", STEPS, (("x", 0),))
        self.assertEqual(told(desk), before)
        desk.watch("new", STEPS, UPWARDS)

    def test_too_long(self):
        desk = Desk(TWENTY)
        check_error(self, TooLong(NO_LENGTH), desk.watch, "wide", WIDE, (("x", 1), ("y", 0)))
        self.assertEqual(desk.watches, ())
        # Just 100000 letters are not too many: 10000 ways of 10 letters.
        desk = Desk(World(100))
        question = read_question("every u: every v: walk [a -> b: next(a, b)] x -> y")
        desk.watch("long", question, (("x", 0), ("y", 10)))
        self.assertEqual(len(desk.letters("long")), 100000)
        longer = read_question("some w: every u: every v: walk [a -> b: next(a, b)] x -> y")
        check_error(self, TooLong(100001), desk.watch, "longer", longer, (("x", 0), ("y", 10)))
        self.assertEqual(desk.watches, ("long",))


class Editing(unittest.TestCase):
    def desk(self):
        desk = Desk(CHAIN)
        desk.watch("up", STEPS, UPWARDS)
        desk.watch("down", STEPS, DOWNWARDS)
        desk.watch("marks", SOME_MARK)
        return desk

    def test_no_edit(self):
        desk = self.desk()
        before = told(desk)
        self.assertEqual(desk.put("edge", (0, 1)), ())
        self.assertEqual(desk.put("edge", [1, 2]), ())
        self.assertEqual(desk.drop("edge", (2, 2)), ())
        self.assertEqual(desk.drop(name="mark", row=[0]), ())
        self.assertEqual(told(desk), before)
        check_error(self, NothingToUndo, desk.undo)

    def test_made_anew(self):
        desk = self.desk()
        self.assertEqual(desk.drop("edge", [1, 2]), ("down", "up"))
        self.assertEqual(desk.world, CHAIN.drop("edge", (1, 2)))
        self.assertEqual(desk.answer("up"), "no")
        self.assertEqual((desk.made("up"), desk.made("down"), desk.made("marks")), (2, 2, 1))
        self.assertEqual(desk.letters("up"), paper(STEPS, desk.world, values=UPWARDS)[1])
        self.assertEqual(desk.edits, 1)
        self.assertEqual(desk.put("mark", (2,)), ())
        self.assertEqual(desk.drop("mark", (1,)), ("marks",))
        self.assertEqual(desk.letters("marks"), (2,))
        self.assertEqual(desk.drop("mark", (2,)), ("marks",))
        self.assertEqual((desk.answer("marks"), desk.letters("marks"), desk.made("marks")), ("no", (), 3))
        self.assertEqual(desk.edits, 4)

    def test_kept_letter_by_letter(self):
        # A shorter way does not matter, since the kept paper does not look at it.
        desk = self.desk()
        self.assertEqual(desk.put("edge", (0, 2)), ())
        self.assertEqual(desk.letters("up"), (1, 2))
        self.assertEqual(paper(STEPS, desk.world, values=UPWARDS), ("yes", (2,)))
        self.assertEqual(desk.made("up"), 1)
        self.assertEqual(desk.put("mark", (0,)), ())
        self.assertEqual(desk.letters("marks"), (1,))
        self.assertEqual(desk.edits, 2)
        # As soon as the way is touched, the other one is taken.
        self.assertEqual(desk.drop("edge", (0, 1)), ("up",))
        self.assertEqual((desk.answer("up"), desk.letters("up"), desk.made("up")), ("yes", (2,), 2))

    def test_made_anew_and_as_it_was(self):
        # The paper has no letters, before and behind.
        desk = Desk(World(2, [("edge", 2, []), ("mark", 1, [])]))
        desk.watch("edge", EDGE, (("x", 0), ("y", 1)))
        desk.watch("none", read_question("every a: not mark(a)"))
        for number, edit in enumerate((desk.put, desk.drop, desk.put, desk.drop)):
            self.assertEqual((desk.answer("edge"), desk.letters("edge")), ("no" if number % 2 == 0 else "yes", ()))
            self.assertEqual(desk.made("edge"), number + 1)
            self.assertEqual(edit("edge", (0, 1)), ("edge",))
        # The paper for no begins with the thing that is marked.
        self.assertEqual(desk.put("mark", (0,)), ("none",))
        self.assertEqual(desk.put("mark", (1,)), ())
        self.assertEqual(desk.drop("mark", (0,)), ("none",))
        self.assertEqual((desk.letters("none"), desk.made("none")), ((1,), 3))

    def test_errors(self):
        desk = self.desk()
        desk.put("edge", (0, 2))
        before = told(desk)
        for edit in (desk.put, desk.drop):
            for name in ("", "zulu", "Edge", "marks"):
                for row in ((0, 1), None, ()):
                    check_error(self, NoSuchRelation(name), edit, name, row)
            for row in ((0,), (0, 3), (0, -1), (0, True), (0, None), (), (0, 1, 2), ((0, 1),)):
                check_error(self, BadRow(row), edit, "edge", row)
                check_error(self, BadRow(tuple(row)), edit, "edge", list(row))
            for row in (None, 7, "01"):
                check_error(self, BadRow(row), edit, "edge", row)
        self.assertEqual(told(desk), before)

    def test_too_long(self):
        desk = Desk(TWENTY)
        values = (("x", 0), ("y", 1))
        desk.watch("b", WIDE, values)
        desk.watch("a", EDGE, values)
        desk.watch("c", WIDE, values)
        desk.put("mark", (0,))
        before = told(desk)
        # The first such name; and `a`, which could be made anew, is as it was.
        check_error(self, TooLong(NO_LENGTH), desk.drop, "edge", (0, 1))
        self.assertEqual(told(desk), before)
        desk.unwatch("b")
        check_error(self, TooLong(NO_LENGTH), desk.drop, "edge", (0, 1))
        desk.unwatch("c")
        self.assertEqual(desk.drop("edge", (0, 1)), ("a",))

    def test_too_long_undo(self):
        desk = Desk(TWENTY.drop("edge", (0, 1)))
        desk.put("edge", (0, 1))
        desk.watch("b", WIDE, (("x", 0), ("y", 1)))
        before = told(desk)
        check_error(self, TooLong(NO_LENGTH), desk.undo)
        check_error(self, TooLong(NO_LENGTH), desk.undo)
        self.assertEqual(told(desk), before)
        desk.unwatch("b")
        self.assertEqual(desk.undo(), ())
        self.assertEqual(desk.edits, 0)

    def test_undo(self):
        desk = self.desk()
        self.assertEqual(desk.drop("edge", (1, 2)), ("down", "up"))
        self.assertEqual(desk.put("mark", (0,)), ())
        self.assertEqual(desk.put("edge", (0, 2)), ("up",))
        self.assertEqual(desk.edits, 3)
        self.assertEqual(desk.undo(), ("up",))
        self.assertEqual(desk.undo(), ())
        self.assertEqual(desk.edits, 1)
        self.assertEqual(desk.world, CHAIN.drop("edge", (1, 2)))
        self.assertEqual(desk.undo(), ("down", "up"))
        self.assertEqual(desk.world, CHAIN)
        self.assertEqual((desk.made("up"), desk.made("down"), desk.made("marks")), (5, 3, 1))
        check_error(self, NothingToUndo, desk.undo)
        self.assertEqual(desk.edits, 0)
        # Edits after an undo can be taken back in their turn.
        desk.put("edge", [0, 2])
        self.assertEqual(desk.edits, 1)
        desk.undo()
        self.assertEqual(desk.world, CHAIN)

    def test_undo_does_not_bring_back_a_paper(self):
        desk = self.desk()
        desk.put("edge", (0, 2))
        self.assertEqual(desk.letters("up"), (1, 2))
        desk.drop("edge", (1, 2))
        self.assertEqual(desk.letters("up"), (2,))
        # The paper that was made anew does not rest on edge(1, 2).
        self.assertEqual(desk.undo(), ("down",))
        self.assertEqual(desk.letters("up"), (2,))
        self.assertEqual(desk.undo(), ("up",))
        self.assertEqual(desk.letters("up"), (1, 2))

    def test_watching_is_no_edit(self):
        desk = Desk(CHAIN)
        desk.put("mark", (0,))
        desk.watch("marks", SOME_MARK)
        self.assertEqual(desk.edits, 1)
        self.assertEqual(desk.undo(), ("marks",))
        self.assertEqual(desk.watches, ("marks",))
        self.assertEqual(desk.letters("marks"), (1,))

    def test_random(self):
        chance = random.Random(55)
        anew = 0
        for _ in range(60):
            world = samples.some_world(chance, chance.choice((2, 3)))
            desk, model = Desk(world), Model(world)
            for _ in range(25):
                way = chance.random()
                if way < 0.2 and len(model.kept) < 4:
                    question = chance.choice(samples.QUESTIONS)
                    values = samples.some_values(chance, question, world)
                    name = "watch%d" % chance.randrange(9)
                    if name in model.kept:
                        check_error(self, TakenName(name), desk.watch, name, question, values)
                    else:
                        desk.watch(name, question, values)
                        model.watch(name, question, values)
                elif way < 0.25 and model.kept:
                    name = chance.choice(sorted(model.kept))
                    desk.unwatch(name)
                    del model.kept[name]
                elif way < 0.4:
                    if model.done:
                        self.assertEqual(desk.undo(), model.undo())
                    else:
                        check_error(self, NothingToUndo, desk.undo)
                else:
                    word = chance.choice(("put", "drop"))
                    name = chance.choice(("edge", "mark"))
                    row = tuple(chance.randrange(world.size) for _ in range(world.arity(name)))
                    found = getattr(desk, word)(name, list(row))
                    self.assertEqual(found, model.put_or_drop(word, name, row))
                    anew += len(found)
                self.assertEqual(told(desk), model.told())
                for name, (question, values, side, letters, _) in model.kept.items():
                    self.assertTrue(is_right(question, side, desk.world, letters, values))
        self.assertGreater(anew, 100)


class Trials(unittest.TestCase):
    def desk(self):
        desk = Desk(CHAIN)
        desk.watch("up", STEPS, UPWARDS)
        desk.put("mark", (0,))
        desk.drop("edge", (1, 2))
        return desk

    def test_block(self):
        desk = self.desk()
        before = told(desk)
        with Trial(desk) as same_desk:
            self.assertIs(same_desk, desk)
            self.assertEqual(told(desk), before)
            desk.put("edge", (1, 2))
            desk.watch("marks", SOME_MARK)
            desk.unwatch("up")
            desk.undo()
            desk.undo()
            desk.undo()
            self.assertEqual(desk.edits, 0)
            self.assertEqual(desk.world, CHAIN)
        self.assertEqual(told(desk), before)
        # What was taken back within the block can be taken back again.
        self.assertEqual(desk.undo(), ("up",))
        self.assertEqual(desk.undo(), ())
        self.assertEqual(desk.world, CHAIN)

    def test_error_goes_on(self):
        for error in (KeyError, BadDeed, ValueError, RuntimeError, KeyboardInterrupt):
            desk = self.desk()
            before = told(desk)
            made = error()
            with self.assertRaises(error) as caught:
                with Trial(desk):
                    desk.put("edge", (2, 2))
                    desk.watch("new", SOME_MARK)
                    raise made
            self.assertIs(caught.exception, made)
            self.assertEqual(told(desk), before)
        with self.assertRaises(TakenName):
            with Trial(desk=desk):
                desk.unwatch("up")
                desk.watch("up", SOME_MARK)
                desk.watch("up", SOME_MARK)
        self.assertEqual(told(desk), before)

    def test_nested(self):
        desk = self.desk()
        before = told(desk)
        with Trial(desk):
            desk.put("edge", (2, 0))
            within = told(desk)
            with Trial(desk):
                desk.undo()
                desk.undo()
                with Trial(desk):
                    desk.unwatch("up")
                    self.assertEqual(desk.watches, ())
                self.assertEqual(desk.watches, ("up",))
                self.assertEqual(desk.edits, 1)
            self.assertEqual(told(desk), within)
            desk.undo()
            self.assertEqual(desk.edits, 2)
            try:
                with Trial(desk):
                    desk.undo()
                    desk.undo()
                    desk.undo()
            except NothingToUndo:
                self.assertEqual(desk.edits, 2)
        self.assertEqual(told(desk), before)

    def test_trial_without_a_block(self):
        desk = self.desk()
        trial = Trial(desk)
        desk.put("edge", (2, 0))
        before = told(desk)
        del trial
        self.assertEqual(told(desk), before)
        # A block begins when it is opened, not when its Trial is made.
        trial = Trial(desk)
        desk.put("edge", (2, 1))
        before = told(desk)
        with trial:
            desk.undo()
        self.assertEqual(told(desk), before)

    def test_leaving_a_block(self):
        desk = self.desk()
        before = told(desk)

        def leave():
            with Trial(desk):
                desk.put("edge", (2, 0))
                return desk.edits

        self.assertEqual(leave(), 3)
        self.assertEqual(told(desk), before)
        for _ in range(3):
            with Trial(desk):
                desk.put("edge", (2, 0))
                continue
        self.assertEqual(told(desk), before)


def nested(number, deeds=()):
    """So many tries within one another."""
    for _ in range(number):
        deeds = [("try", deeds)]
    return deeds


class Perform(unittest.TestCase):
    def test_entries(self):
        desk = Desk(CHAIN)
        found = perform(desk, [
            ("watch", "up", STEPS, UPWARDS), ["watch", "marks", SOME_MARK, []], ("put", "mark", (0,)),
            ["drop", "edge", [1, 2]], ("undo",), ("put", "mark", [0]), ("unwatch", "marks"),
            ("try", [("drop", "edge", (0, 1)), ["undo"]]), ["try", []], ("undo",)])
        self.assertEqual(found, ((), (), (), ("up",), ("up",), (), (), (("up",), ("up",)), (), ()))
        self.assertEqual(desk.world, CHAIN)
        self.assertEqual(desk.watches, ("up",))
        self.assertEqual(desk.edits, 0)
        self.assertEqual(perform(desk=desk, deeds=()), ())
        self.assertEqual(perform(desk, []), ())

    def test_try(self):
        desk = Desk(CHAIN)
        desk.watch("up", STEPS, UPWARDS)
        desk.put("mark", (2,))
        before = told(desk)
        found = perform(desk, (("try", (("undo",), ("drop", "edge", (0, 1)), ("unwatch", "up"), ("try", [("undo",)]),
                                        ("watch", "up", SOME_MARK, ()))),))
        self.assertEqual(found, (((), ("up",), (), ((),), ()),))
        self.assertEqual(told(desk), before)
        found = perform(desk, nested(10, [("drop", "edge", (0, 1))]))
        for _ in range(10):
            (found,) = found
        self.assertEqual(found, (("up",),))
        self.assertEqual(told(desk), before)

    def test_too_many_tries(self):
        desk = Desk(CHAIN)
        found = perform(desk, nested(10))
        for _ in range(10):
            (found,) = found
        self.assertEqual(found, ())
        for number in (11, 12, 30, 3000):
            check_error(self, BadDeed, perform, desk, nested(number))
            check_error(self, BadDeed, perform, desk, [("put", "mark", (0,))] + nested(number))
        # Many beside one another are not too many.
        self.assertEqual(perform(desk, [("try", ()), ("try", [("try", ())])] * 20), ((), ((),)) * 20)
        check_error(self, BadDeed, perform, desk, nested(9) + nested(10) + nested(11))
        self.assertEqual(told(desk), told(Desk(CHAIN)))

    def test_bad_deeds(self):
        wrong = [None, 7, True, "undo", "", (), [], ("",), ("Undo",), ("undo", 1), (None,), (["undo"],), (("undo",),),
                 (0,), (True,), ("put",), ("put", "edge"), ("put", "edge", (0, 1), 0), ("drop", "edge"),
                 ("drop", "edge", (0, 1), ()), ("watch", "up", STEPS), ("watch", "up"), ("watch", "up", STEPS, (), ()),
                 ("unwatch",), ("unwatch", "up", ()), ("try",), ("try", (), ()), ("try", None), ("try", 7),
                 ("try", "undo"), ("try", True), ("answer", "up"), ("letters", "up"), ("try", ("undo",)),
                 ("try", ("undo", "undo")), ("try", [None]), ("try", [[]])]
        desk = Desk(CHAIN)
        desk.put("mark", (0,))
        before = told(desk)
        for deed in wrong:
            for deeds in ([deed], (("put", "edge", (2, 2)), deed), [("undo",), ("undo",), deed],
                          [deed, ("put", "zulu", None)], [("put", "zulu", None), deed], [("try", [deed])],
                          [("put", "edge", (2, 2)), ("try", [("undo",), ("try", (("watch", "m", SOME_MARK, ()), deed))])],
                          nested(9, [deed])):
                with self.subTest(deeds=deeds):
                    check_error(self, BadDeed, perform, desk, deeds)
                    self.assertEqual(told(desk), before)
        for deeds in (None, 7, "undo", True):
            check_error(self, BadDeed, perform, desk, deeds)

    def test_errors_of_deeds(self):
        def check(deeds, error, edits, watches=("up",)):
            desk = Desk(CHAIN)
            desk.watch("up", STEPS, UPWARDS)
            with self.subTest(deeds=deeds):
                check_error(self, error, perform, desk, deeds)
                self.assertEqual((desk.edits, desk.watches), (edits, watches))
                return desk

        put, other = ("put", "mark", (0,)), ("put", "mark", (2,))
        check([put, ("put", "zulu", (0,)), other], NoSuchRelation("zulu"), 1)
        check([put, other, ("put", "mark", [3])], BadRow((3,)), 2)
        check([("drop", "edge", (0, 1)), ("drop", "mark", 5)], BadRow(5), 1)
        check([put, ("undo",), ("undo",), other], NothingToUndo, 0)
        check([put, ("watch", "up", STEPS, None)], TakenName("up"), 1)
        check([("watch", "new", SOME_MARK, ()), ("watch", "other", STEPS, None)], BadValues, 0, ("new", "up"))
        check([("watch", "other", STEPS, (("x", 0),))], Unvalued("y"), 0)
        check([("watch", "other", read_question("zulu(x)"), None)], NoSuchRelation("zulu"), 0)
        check([("unwatch", "up"), ("unwatch", "up")], UnknownWatch("up"), 0, ())
        for name in (None, 7, True, ["up"], ("up",), (["up"],)):
            check([put, ("unwatch", name)], UnknownWatch(name), 1)
            check([put, ("put", name, (0,))], NoSuchRelation(name), 1)
            check([put, ("drop", name, None)], NoSuchRelation(name), 1)
        # The deeds within a try are taken back, those before it stay done.
        desk = check([put, ("try", [other, ("unwatch", "up"), ("try", [("undo",), ("put", "edge", (9, 9))])]), other],
                     BadRow((9, 9)), 1)
        self.assertEqual(desk.world, CHAIN.put("mark", (0,)))
        check([put, other, ("try", [("undo",)] * 3)], NothingToUndo, 2)
        check(nested(10, [("undo",)]), NothingToUndo, 0)
        self.assertTrue(issubclass(BadDeed, OnceError))

    def test_random(self):
        chance = random.Random(58)

        def some_deeds(depth):
            made = []
            for _ in range(chance.randrange(5)):
                way = chance.random()
                if way < 0.25 and depth:
                    made.append(("try", some_deeds(depth - 1)))
                elif way < 0.4:
                    made.append(("undo",))
                elif way < 0.5:
                    made.append(("watch", chance.choice("abc"), SOME_MARK, ()))
                elif way < 0.55:
                    made.append(("unwatch", chance.choice("abc")))
                else:
                    made.append((chance.choice(("put", "drop")), "mark", (chance.randrange(3),)))
            return made

        def done(model, deeds):
            """What the deeds return; an error ends them."""
            entries = []
            for deed in deeds:
                if deed[0] == "try":
                    within = model.copy()
                    entries.append(done(within, deed[1]))
                elif deed[0] == "undo":
                    if not model.done:
                        raise NothingToUndo()
                    entries.append(model.undo())
                elif deed[0] == "watch":
                    if deed[1] in model.kept:
                        raise TakenName(deed[1])
                    model.watch(*deed[1:])
                    entries.append(())
                elif deed[0] == "unwatch":
                    if deed[1] not in model.kept:
                        raise UnknownWatch(deed[1])
                    del model.kept[deed[1]]
                    entries.append(())
                else:
                    entries.append(model.put_or_drop(*deed))
            return tuple(entries)

        ends = {True: 0, False: 0}
        for _ in range(150):
            desk, model = Desk(CHAIN), Model(CHAIN)
            for _ in range(6):
                deeds = some_deeds(3)
                try:
                    expected = done(model, deeds)
                except OnceError as error:
                    expected = None
                    check_error(self, error, perform, desk, deeds)
                else:
                    self.assertEqual(perform(desk, deeds), expected)
                ends[expected is None] += 1
                self.assertEqual(told(desk), model.told())
        self.assertGreater(min(ends.values()), 100)


if __name__ == "__main__":
    unittest.main()
