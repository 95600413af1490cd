"""The errors of the package. Each one keeps what it is about, as it was handed in."""


class OnceError(ValueError):
    """Any error of the package."""


class BadWorld(OnceError):
    """The size or a relation of a world is not as told."""


class NoSuchRelation(OnceError):
    """The world has no relation of this name, or one of another arity."""

    def __init__(self, name):
        self.name = name


class BadRow(OnceError):
    """The row does not fit the relation. It is kept as a tuple."""

    def __init__(self, row):
        self.row = tuple(row) if isinstance(row, list) else row


class BadOrder(OnceError):
    """The order does not name each thing of the world once."""


class BadQuestion(OnceError):
    """The tree of a question is not as told."""


class BadText(OnceError):
    """The text is no question. The place is that of its first bad sign."""

    def __init__(self, place):
        self.place = place


class BadValues(OnceError):
    """The variables, or the things for them, are not as told."""


class Unvalued(OnceError):
    """A free variable stands for no thing."""

    def __init__(self, variable):
        self.variable = variable


class NotAWalk(OnceError):
    """The tree of the question is no walk."""


class BadJudge(OnceError):
    """A number or an instruction of a judge is not as told."""


class BadGiven(OnceError):
    """The things that a judge is given are not as told."""


class BadStanding(OnceError):
    """This is no standing of the judge in the world."""


class TooMany(OnceError):
    """More standings are reached than the limit allows."""

    def __init__(self, limit):
        self.limit = limit


class BadSide(OnceError):
    """The word is none of those that may stand there."""

    def __init__(self, side):
        self.side = side


class NotRight(OnceError):
    """The paper is not right."""


class TooLarge(OnceError):
    """The result would be larger than its bounds allow."""


class TooLong(OnceError):
    """The paper has more letters than the limit allows."""

    def __init__(self, length):
        self.length = length


class TakenName(OnceError):
    """A question is watched under this name already."""

    def __init__(self, name):
        self.name = name


class UnknownWatch(OnceError):
    """No question is watched under this name."""

    def __init__(self, name):
        self.name = name


class NothingToUndo(OnceError):
    """No edit is left that could be taken back."""


class BadDeed(OnceError):
    """A deed is not as told."""


class NoSuchWord(OnceError):
    """The library has no question under this word."""

    def __init__(self, word):
        self.word = word


class BadNote(OnceError):
    """The note is not as it would be written. The line is its first bad one."""

    def __init__(self, line):
        self.line = line


class BadLetter(OnceError):
    """This cannot be a letter of any paper."""

    def __init__(self, letter):
        self.letter = letter
