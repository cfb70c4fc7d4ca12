"""The refusals: each one is a FillError, and none stands under another."""


class FillError(ValueError):
    pass


class NoSaying(FillError):

    def __init__(self, place):
        self.place = place


class Strange(FillError):

    def __init__(self, letter):
        self.letter = letter


class NoForm(FillError):
    pass


class NoLetters(FillError):
    pass


class NoWish(FillError):
    pass


class TooMany(FillError):
    pass


class NoFilling(FillError):
    pass


class NoNumber(FillError):
    pass


class NoLine(FillError):
    pass


class NothingDone(FillError):
    pass
