"""The words of the library: which variables and which relations belong to each of them."""

from onceread.errors import BadQuestion, NoSuchWord
from onceread.kinds import is_name

FREE = {
    "linked": (), "rooted": (), "ringless": (), "onring": ("x",), "apart": ("x", "y"),
    "through": ("m", "x", "y"), "bridge": ("x", "y"), "noreturn": ("x", "y"), "twosided": (),
    "reachesmore": ("x", "y"), "fillable": (), "alike": ("x", "y"),
}
# The relations of the words that are about other ones than the relation that is told.
OTHER_USES = {
    "fillable": (("nn", 2), ("pn", 2), ("pp", 2)),
    "alike": (("good", 1), ("one", 2), ("zero", 2)),
}


def check_word(word, relation):
    """Raise NoSuchWord or BadQuestion unless the library has a question of this word and relation."""
    if word not in FREE:
        raise NoSuchWord(word)
    if not is_name(relation):
        raise BadQuestion()


def uses_of(word, relation):
    """The relations that a word uses, with their arities, ascending."""
    return OTHER_USES.get(word, ((relation, 2),))
