"""Points 1 and 3 over the whole program: arguments by their names, lists in the place of tuples, nothing changed."""

import copy
import importlib
import unittest

from onceread.desks import Desk
from onceread.judges import Judge
from onceread.questions import Question
from onceread.worlds import World

from samples import CHAIN, NO_PAPER, STEPS
from test_interface import CLASSES, FUNCTIONS

WAY = Judge(3, [("same", 0, 1, 5), ("read", 2), ("fact", "edge", (0, 2), 4), ("refuse",), ("go", 6), ("take",),
                ("copy", 0, 2), ("go", 0)], 2)
UP = (("x", 0), ("y", 2))
DOWN = (("x", 1), ("y", 0))
NEVER = Judge(1, (("read", 0), ("refuse",)))
# What a function is called with: all its arguments, by the names that the interface tells.
CALLS = {
    "rel": {"name": "edge"}, "same": {"v": "x", "w": "y"}, "before": {"v": "x", "w": "y"},
    "following": {"v": "x", "w": "y"}, "is_first": {"v": "x"}, "is_last": {"v": "x"},
    "some": {"v": "x", "question": STEPS}, "every": {"v": "x", "question": STEPS},
    "more": {"v": "x", "one": STEPS, "w": "y", "two": STEPS},
    "walk": {"left": ("a",), "right": ("b",), "step": STEPS, "start": ("x",), "goal": ("y",)},
    "pushed": {"question": STEPS}, "write_question": {"question": STEPS}, "read_question": {"text": "first(x)"},
    "holds": {"question": STEPS, "world": CHAIN, "values": UP},
    "answers": {"question": STEPS, "world": CHAIN, "variables": ("y", "x")},
    "tally": {"question": STEPS, "world": CHAIN, "variable": "y", "values": (("x", 0),)},
    "layers": {"question": STEPS, "world": CHAIN, "values": UP},
    "verdict": {"judge": WAY, "world": CHAIN, "letters": (1, 2), "given": (0, 2)},
    "looks": {"judge": WAY, "world": CHAIN, "letters": (1, 2), "given": (0, 2)},
    "agrees": {"world": CHAIN, "looked": (("edge", (0, 1), True), ("mark", (0,), False))},
    "moves": {"judge": WAY, "world": CHAIN, "standing": (1, (0, 2, 0))},
    "reached": {"judge": WAY, "world": CHAIN, "given": (0, 2), "limit": 100},
    "can_take": {"judge": WAY, "world": CHAIN, "given": (0, 2), "limit": 100},
    "least_letters": {"judge": WAY, "world": CHAIN, "given": (0, 2), "limit": 100},
    "taken_papers": {"judge": WAY, "world": CHAIN, "given": (0, 2), "upto": 4},
    "is_right": {"question": STEPS, "side": "no", "world": CHAIN, "letters": NO_PAPER, "values": DOWN},
    "rounds_told": {"question": STEPS, "world": CHAIN, "letters": NO_PAPER, "values": DOWN},
    "bill": {"question": STEPS, "side": "no"}, "judge_of": {"question": STEPS, "side": "no"},
    "paper_length": {"question": STEPS, "world": CHAIN, "values": DOWN},
    "paper": {"question": STEPS, "world": CHAIN, "values": DOWN, "limit": 100},
    "cheapest_way": {"question": STEPS, "world": CHAIN, "values": UP, "most": 3},
    "right_papers": {"question": STEPS, "side": "yes", "world": CHAIN, "values": UP, "upto": 3},
    "rests_on": {"question": STEPS, "side": "no", "world": CHAIN, "letters": NO_PAPER, "values": DOWN},
    "is_counter_right": {"judge": NEVER, "world": CHAIN, "letters": (1, 0), "given": ()},
    "counter_paper": {"judge": NEVER, "world": CHAIN, "given": (), "limit": 9, "longest": 100},
    "counter_bill": {"judge": WAY}, "counter": {"judge": WAY},
    "settled": {"judge": WAY, "world": CHAIN, "given": (0, 2), "limit": 100, "longest": 100},
    "web": {"judge": WAY, "world": CHAIN, "given": (0, 2), "limit": 100}, "goal_reached": {},
    "one_walk": {"judge": WAY, "variables": ("x", "y")},
    "line_table": {"one": WAY, "two": WAY},
    "is_line_table": {"one": NEVER, "two": NEVER, "table": ((0, 0), (1, 1))}, "tidied": {"judge": WAY},
    "perform": {"desk": None, "deeds": (("put", "edge", (2, 0)), ("try", (("undo",), ("drop", "mark", (1,)))),
                                        ("watch", "up", STEPS, UP))},
    "named": {"word": "linked", "relation": "road"}, "words": {},
    "view": {"name": "seen", "question": STEPS, "variables": ("x", "y")},
    "plainly": {"word": "apart", "world": CHAIN, "values": UP, "relation": "edge"},
    "write_world": {"world": CHAIN}, "read_world": {"text": "world 2\nedge 2: 0 1"},
    "write_judge": {"judge": WAY}, "read_judge": {"text": "judge 0 given 0 lines 1\n0 take"},
    "write_paper": {"word": "no", "letters": NO_PAPER}, "read_paper": {"text": "paper no 1\n0"},
}
KEYWORDS_ONLY = {"walk": ("start", "goal"), "reached": ("limit",), "can_take": ("limit",), "least_letters": ("limit",),
                 "taken_papers": ("upto",), "paper": ("values", "limit"), "cheapest_way": ("values", "most"),
                 "right_papers": ("values", "upto"), "counter_paper": ("limit", "longest"),
                 "settled": ("limit", "longest"), "web": ("limit",)}


def listed(value):
    """The same with lists in the place of tuples, at every level."""
    return [listed(member) for member in value] if isinstance(value, tuple) else value


def has_lists(value):
    return isinstance(value, list) or isinstance(value, tuple) and any(has_lists(member) for member in value)


def comparable(found):
    """What a call returned, so that two of them can be compared."""
    return tuple(found) if hasattr(found, "__next__") else found


class Arguments(unittest.TestCase):
    def called(self, function, told):
        """The result by names."""
        if function.__name__ == "perform":
            told = dict(told, desk=Desk(CHAIN))
        return comparable(function(**told))

    def test_each_function(self):
        for module, functions in FUNCTIONS.items():
            for name in functions:
                with self.subTest(function=name):
                    function = getattr(importlib.import_module("onceread." + module), name)
                    if name == "rel":
                        self.assertEqual(function("edge", "x"), Question(["rel", "edge", ["x"]]))
                        continue
                    told = CALLS[name]
                    expected = self.called(function, told)
                    self.assertFalse(has_lists(expected))
                    if name != "perform":
                        before = [told[one] for one in told if one not in KEYWORDS_ONLY.get(name, ())]
                        after = {one: told[one] for one in told if one in KEYWORDS_ONLY.get(name, ())}
                        self.assertEqual(comparable(function(*before, **after)), expected)
                    with_lists = {one: listed(value) for one, value in told.items()}
                    kept = copy.deepcopy({one: value for one, value in with_lists.items() if isinstance(value, list)})
                    self.assertEqual(self.called(function, with_lists), expected)
                    for one, value in kept.items():
                        if name != "perform":
                            self.assertEqual(with_lists[one], value)

    def test_functions_are_all_there(self):
        self.assertEqual(set(CALLS), {name for functions in FUNCTIONS.values() for name in functions})

    def test_classes(self):
        self.assertEqual(set(CLASSES), {"worlds", "questions", "judges", "readers", "desks"})
        relations = (("edge", 2, ((0, 1), (1, 2))), ("mark", 1, ((1,),)))
        given = listed(relations)
        world = World(size=3, relations=given)
        given[0][2][0][1] = 2
        given.pop()
        self.assertEqual(world, CHAIN)
        self.assertEqual(world.put(name="edge", row=[2, 2]), world.put("edge", (2, 2)))
        self.assertEqual(world.drop(name="edge", row=[0, 1]), world.drop("edge", (0, 1)))
        self.assertEqual(world.moved(order=[2, 1, 0]), world.moved((2, 1, 0)))
        self.assertEqual((world.arity(name="edge"), world.rows(name="mark")), (2, ((1,),)))
        tree = listed(STEPS.tree)
        question = Question(tree=tree)
        tree[3][2][0] = "c"
        self.assertEqual(question, STEPS)
        lines = listed(WAY.lines)
        judge = Judge(registers=3, lines=lines, given=2)
        lines[2][2][0] = 1
        self.assertEqual(judge, WAY)
        reader = importlib.import_module("onceread.readers").Reader
        self.assertEqual(reader(judge=WAY, world=CHAIN, given=[0, 2]).feed(letter=1), "reading")
        self.assertEqual(reader.resumed(judge=WAY, world=CHAIN, standing=[1, [0, 2, 0]]).standing, (1, (0, 2, 0)))

    def test_whole_numbers(self):
        """What is told to be a number is none of True and False, and the other way round."""
        for name in ("bill", "counter_bill", "tally", "paper_length"):
            module = next(module for module, functions in FUNCTIONS.items() if name in functions)
            found = getattr(importlib.import_module("onceread." + module), name)(**CALLS[name])
            self.assertIs(type(found), int)
        for name in ("holds", "can_take", "is_right", "agrees", "is_counter_right", "is_line_table", "plainly"):
            module = next(module for module, functions in FUNCTIONS.items() if name in functions)
            found = getattr(importlib.import_module("onceread." + module), name)(**CALLS[name])
            self.assertIs(type(found), bool)
        desk = Desk(CHAIN)
        desk.watch("up", STEPS, UP)
        for found in (desk.made("up"), desk.edits) + desk.letters("up"):
            self.assertIs(type(found), int)


if __name__ == "__main__":
    unittest.main()
