"""A library of named questions."""

from onceread.asked import check_valued
from onceread.errors import BadValues
from onceread.kinds import are_different_names
from onceread.lexicon import FREE, check_word
from onceread.questions import Question
from onceread.sentences import read_question

MOST_VIEWED = 3
# R stands for the relation that is told.
TEXTS = {
    "linked": "every x: every y: walk [a -> b: R(a, b)] x -> y",
    "rooted": "some x: every y: walk [a -> b: R(a, b)] x -> y",
    "ringless": "not some x: some y: (R(x, y) and walk [a -> b: R(a, b)] y -> x)",
    "onring": "some y: (R(x, y) and walk [a -> b: R(a, b)] y -> x)",
    "apart": "not walk [a -> b: R(a, b)] x -> y and not walk [a -> b: R(a, b)] y -> x",
    # No way leads past m: it neither begins there nor ever comes there.
    "through": "m = x or not walk [a -> b: R(a, b) and not b = m] x -> y",
    "bridge": """not walk [a -> b: (R(a, b) or R(b, a))
        and not (a = x and b = y) and not (a = y and b = x)] x -> y""",
    "noreturn": "walk [a -> b: R(a, b) and not walk [c -> d: R(c, d)] b -> a] x -> y",
    # No way of an even number of steps, in either sense, joins the two ends of a step.
    "twosided": """not some x: some y: (R(x, y) and walk [a -> b:
        some c: ((R(a, c) or R(c, a)) and (R(c, b) or R(b, c)))] x -> y)""",
    "reachesmore": """more a: (walk [b -> c: R(b, c)] x -> a)
        than a: (walk [b -> c: R(b, c)] y -> a)""",
    # A thing and f mean that it is false, a thing and t that it is true. A step leads from what
    # is so to what is then so, too. Nothing may force the contrary of itself, and back again.
    "fillable": """not some f: (first(f) and some t: (last(t) and some x: (
        walk [a p -> b q: (first(p) and last(q) and (pp(a, b) or pp(b, a)))
            or (first(p) and first(q) and pn(a, b)) or (last(p) and last(q) and pn(b, a))
            or (last(p) and first(q) and (nn(a, b) or nn(b, a)))] x f -> x t
        and walk [a p -> b q: (first(p) and last(q) and (pp(a, b) or pp(b, a)))
            or (first(p) and first(q) and pn(a, b)) or (last(p) and last(q) and pn(b, a))
            or (last(p) and first(q) and (nn(a, b) or nn(b, a)))] x t -> x f)))""",
    "alike": """not some p: some q: (((good(p) and not good(q)) or (good(q) and not good(p)))
        and walk [a b -> c d: (zero(a, c) and zero(b, d)) or (one(a, c) and one(b, d))] x y -> p q)""",
}


def words():
    """All words of the library, ascending."""
    return tuple(sorted(FREE))


def named(word, relation="edge"):
    """The question of a word about a relation."""
    check_word(word, relation)
    return read_question(TEXTS[word].replace("R(", relation + "("))


def view(name, question, variables):
    """The question whether the rows of a relation are exactly the answers of a question."""
    if not are_different_names(variables, MOST_VIEWED) or not variables:
        raise BadValues()
    check_valued(question.free, variables)
    row = ("rel", name, tuple(variables))
    tree = ("or", ("and", row, question.tree), ("and", ("not", row), ("not", question.tree)))
    for variable in reversed(variables):
        tree = ("every", variable, tree)
    return Question(tree)
