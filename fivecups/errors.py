"""The refusals: one class for each, all of them right under CupError."""


class CupError(ValueError):
    pass


class BadText(CupError):
    def __init__(self, row):
        self.row = row


class NoDance(CupError):
    def __init__(self, word, at):
        self.word = word
        self.at = at


class NoRing(CupError):
    pass


class TooHeavy(CupError):
    def __init__(self, weight):
        self.weight = weight


class OtherSizes(CupError):
    pass


class NoName(CupError):
    def __init__(self, name):
        self.name = name


class NoRow(CupError):
    pass
