"""The names, arguments and places that the interface lists."""

import importlib
import inspect
import unittest

FUNCTIONS = {
    "questions": {"rel": "name *variables", "same": "v w", "before": "v w", "following": "v w", "is_first": "v",
                  "is_last": "v", "some": "v question", "every": "v question", "more": "v one w two",
                  "walk": "left right step * start goal"},
    "pushing": {"pushed": "question"},
    "sentences": {"write_question": "question", "read_question": "text"},
    "meaning": {"holds": "question world values=()", "answers": "question world variables",
                "tally": "question world variable values=()"},
    "layering": {"layers": "question world values=()"},
    "running": {"verdict": "judge world letters given=()", "looks": "judge world letters given=()",
                "agrees": "world looked"},
    "reaching": {"moves": "judge world standing", "reached": "judge world given=() * limit=20000",
                 "can_take": "judge world given=() * limit=20000"},
    "seeking": {"least_letters": "judge world given=() * limit=20000", "taken_papers": "judge world given=() * upto"},
    "grammar": {"is_right": "question side world letters values=()"},
    "rounds": {"rounds_told": "question world letters values=()"},
    "bills": {"bill": "question side"},
    "asking": {"judge_of": "question side"},
    "lengths": {"paper_length": "question world values=()"},
    "papers": {"paper": "question world * values=() limit=100000"},
    "ways": {"cheapest_way": "question world * values=() most=None"},
    "listing": {"right_papers": "question side world * values=() upto"},
    "resting": {"rests_on": "question side world letters values=()"},
    "counterpapers": {"is_counter_right": "judge world letters given=()",
                      "counter_paper": "judge world given=() * limit=20000 longest=100000"},
    "countering": {"counter_bill": "judge", "counter": "judge"},
    "settling": {"settled": "judge world given=() * limit=20000 longest=100000"},
    "webs": {"web": "judge world given=() * limit=400", "goal_reached": ""},
    "onewalk": {"one_walk": "judge variables"},
    "linetables": {"line_table": "one two", "is_line_table": "one two table"},
    "tidying": {"tidied": "judge"},
    "desks": {"perform": "desk deeds"},
    "library": {"named": "word relation='edge'", "words": "", "view": "name question variables"},
    "plainly": {"plainly": "word world values=() relation='edge'"},
    "worldnotes": {"write_world": "world", "read_world": "text"},
    "judgenotes": {"write_judge": "judge", "read_judge": "text"},
    "papernotes": {"write_paper": "word letters", "read_paper": "text"},
}
CLASSES = {
    "worlds": {"World": ("size relations=()", "arity:name rows:name put:name,row drop:name,row moved:order", "",
                         "__contains__ __len__ __iter__ __eq__")},
    "questions": {"Question": ("tree", "", "free uses bare ordered", "__and__ __or__ __invert__ __eq__")},
    "judges": {"Judge": ("registers lines given=0", "", "uses", "__eq__")},
    "readers": {"Reader": ("judge world given=()", "feed:letter", "state standing fed", "")},
    "desks": {"Desk": ("world", "watch:name,question,values=() unwatch:name answer:name letters:name made:name "
                       "put:name,row drop:name,row undo:", "world watches edits", ""),
              "Trial": ("desk", "", "", "__enter__ __exit__")},
}


def told(callable_object, skip=0):
    """The parameters in one text."""
    words, keyword_only = [], False
    for parameter in list(inspect.signature(callable_object).parameters.values())[skip:]:
        if parameter.kind == parameter.KEYWORD_ONLY and not keyword_only:
            keyword_only = True
            words.append("*")
        word = ("*" if parameter.kind == parameter.VAR_POSITIONAL else "") + parameter.name
        if parameter.default is not parameter.empty:
            word += "=" + repr(parameter.default)
        words.append(word)
    return " ".join(words)


class Interface(unittest.TestCase):
    def test_functions(self):
        for name, functions in FUNCTIONS.items():
            module = importlib.import_module("onceread." + name)
            for function, parameters in functions.items():
                with self.subTest(module=name, function=function):
                    found = getattr(module, function)
                    self.assertEqual(found.__module__, "onceread." + name)
                    self.assertEqual(told(found), parameters)

    def test_generators(self):
        for name, function in (("seeking", "taken_papers"), ("listing", "right_papers")):
            module = importlib.import_module("onceread." + name)
            self.assertTrue(inspect.isgeneratorfunction(getattr(module, function)))

    def test_classes(self):
        for name, classes in CLASSES.items():
            module = importlib.import_module("onceread." + name)
            for word, (parameters, methods, properties, signs) in classes.items():
                with self.subTest(module=name, word=word):
                    found = getattr(module, word)
                    self.assertEqual(found.__module__, "onceread." + name)
                    self.assertEqual(told(found), parameters)
                    for method in methods.split():
                        method, rest = method.split(":")
                        self.assertEqual(told(vars(found)[method], 1), rest.replace(",", " "))
                    for one in properties.split():
                        self.assertIsInstance(vars(found)[one], property)
                    for sign in signs.split():
                        self.assertIn(sign, vars(found))

    def test_class_method(self):
        reader = importlib.import_module("onceread.readers").Reader
        self.assertIsInstance(vars(reader)["resumed"], classmethod)
        self.assertEqual(told(reader.resumed), "judge world standing")

    def test_package(self):
        package = importlib.import_module("onceread")
        self.assertTrue(package.__doc__)
        source = inspect.getsource(package).strip()
        self.assertTrue(source.startswith('"""') and source.endswith('"""') and source.count('"""') == 2)


if __name__ == "__main__":
    unittest.main()
