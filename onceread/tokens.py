"""The text of a question, cut into its tokens."""

from onceread.errors import BadText

BLANKS = " \n"
SIGNS = "()[],:=<"
ARROW = "->"
WORD_SIGNS = "abcdefghijklmnopqrstuvwxyz0123456789"
END = ""


def word_end(text, at):
    """The place behind the word that begins at a place."""
    while at < len(text) and text[at] in WORD_SIGNS:
        at += 1
    return at


def token_end(text, at):
    """The place behind the token that begins at a place."""
    if text[at] in SIGNS:
        return at + 1
    if text[at:at + 2] == ARROW:
        return at + 2
    behind = word_end(text, at)
    if behind == at:
        raise BadText(at)
    return behind


def tokens_of(text):
    """All tokens with their places, and behind them an END, which no token equals."""
    found = []
    at = 0
    while at < len(text):
        if text[at] in BLANKS:
            at += 1
        else:
            behind = token_end(text, at)
            found.append((text[at:behind], at))
            at = behind
    found.append((END, len(text)))
    return found
