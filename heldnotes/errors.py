"""The errors of the package.

Their texts do not show the objects that they hold: these may be any, and some cannot be shown.
"""


class HeldError(ValueError):
    """What all errors of the package are; made of a text."""


class BadStates(HeldError):
    """The states of a book are no list of one to four unlike words."""

    def __init__(self, words):
        super().__init__("no list of one to four unlike words")
        self.words = words


class BadSorts(HeldError):
    """The sorts of a book are no list of one to three unlike words."""

    def __init__(self, words):
        super().__init__("no list of one to three unlike words")
        self.words = words


class BadFirst(HeldError):
    """The first state of a book is no state of it."""

    def __init__(self, word):
        super().__init__("not a state of the book")
        self.word = word


class BadRow(HeldError):
    """A row of a book is none, has no effect, or has none that can be made idle."""

    def __init__(self, row):
        super().__init__("no such row of a book")
        self.row = row


class BadWorth(HeldError):
    """A worth is of no state, or no integer from -9 to 9."""

    def __init__(self, word):
        super().__init__("no such worth of a state")
        self.word = word


class BadKey(HeldError):
    """A key is no word."""

    def __init__(self, key):
        super().__init__("a key is a word")
        self.key = key


class BadSort(HeldError):
    """A sort is none of the book's."""

    def __init__(self, word):
        super().__init__("not a sort of the book")
        self.word = word


class BadNumber(HeldError):
    """A number is no integer."""

    def __init__(self, number):
        super().__init__("a number is an integer")
        self.number = number


class NoLetter(HeldError):
    """There is no letter to take back, or to take anew."""

    def __init__(self):
        super().__init__("no such letter")


class BadLetter(HeldError):
    """The thing at an index of a row is no letter of the book."""

    def __init__(self, index):
        super().__init__("not a letter of the book")
        self.index = index


class BadStanding(HeldError):
    """A thing has not the form of a standing, or no row leads to it."""

    def __init__(self, standing):
        super().__init__("not a standing of the book")
        self.standing = standing


class BadWish(HeldError):
    """A thing is no wish of the book."""

    def __init__(self, wish):
        super().__init__("not a wish of the book")
        self.wish = wish


class UnlikeSorts(HeldError):
    """Two books have not the same sorts."""

    def __init__(self):
        super().__init__("the books have not the same sorts")


class BadSince(HeldError):
    """A stretch is no integer from 0 to 60."""

    def __init__(self, since):
        super().__init__("not an integer from 0 to 60")
        self.since = since


class BadBound(HeldError):
    """A bound is no integer from 0 to 12."""

    def __init__(self, bound):
        super().__init__("not an integer from 0 to 12")
        self.bound = bound


class BadRate(HeldError):
    """A thing is no pair of integers, the second above 0."""

    def __init__(self, rate):
        super().__init__("not a rate")
        self.rate = rate


class BadClamp(HeldError):
    """The thing at an index of a list is no clamp."""

    def __init__(self, index):
        super().__init__("not a clamp")
        self.index = index


class BadAt(HeldError):
    """A device of a pair is told by neither 0 nor 1."""

    def __init__(self, at):
        super().__init__("neither 0 nor 1")
        self.at = at


class NotSent(HeldError):
    """A letter is not on the road."""

    def __init__(self, letter):
        super().__init__("the letter is not on the road")
        self.letter = letter


class Sent(HeldError):
    """A letter is on the road already."""

    def __init__(self, letter):
        super().__init__("the letter is on the road already")
        self.letter = letter


class NoDeed(HeldError):
    """There is no deed to take back, or to do again."""

    def __init__(self):
        super().__init__("no such deed")


class BadDeed(HeldError):
    """The thing at an index of a list is no deed."""

    def __init__(self, index):
        super().__init__("not a deed")
        self.index = index
