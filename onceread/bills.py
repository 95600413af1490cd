"""How many registers the judge of a question may have."""

from onceread.asked import check_side
from onceread.trees import ATOMS, parts_of


def needs_of(tree):
    """The needs of a tree: for its yes, and for its no."""
    word = tree[0]
    if word in ATOMS:
        return 0, 0
    needs = [needs_of(part) for part in parts_of(tree)]
    yes = max([need for need, _ in needs])
    no = max([need for _, need in needs])
    if word == "not":
        return no, yes
    if word == "and" or word == "or":
        return yes, no
    if word == "some" or word == "every":
        return 1 + yes, 1 + no
    if word == "more":
        return 5 + max(yes, no), 5 + max(yes, no)
    width = len(tree[1])
    return 2 * width + yes, 9 * width + 1 + max(yes, no)


def bill(question, side):
    """The number of registers of which a judge for this side of the question has no more."""
    check_side(side)
    yes, no = needs_of(question.tree)
    return len(question.free) + 1 + (yes if side == "yes" else no)
