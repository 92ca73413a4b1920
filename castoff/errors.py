"""The refusals: one class for each, all under CastError."""


class CastError(ValueError):
    def word(self):
        return "refused"


class NoName(CastError):
    def word(self):
        return "no name"


class NoNumber(CastError):
    def word(self):
        return "no number"


class Twice(CastError):
    def word(self):
        return "twice"


class TooMany(CastError):
    def word(self):
        return "too many"


class Unknown(CastError):
    def __init__(self, name, place):
        self.name = name
        self.place = place

    def word(self):
        return "unknown"


class TooWide(CastError):
    def __init__(self, name, place):
        self.name = name
        self.place = place

    def word(self):
        return "too wide"


class There(CastError):
    def word(self):
        return "there"


class NotThere(CastError):
    def word(self):
        return "not there"


class Full(CastError):
    def word(self):
        return "full"


class BadBook(CastError):
    def __init__(self, place):
        self.place = place

    def word(self):
        return "bad book"


class BadPaper(CastError):
    def word(self):
        return "bad paper"


class NoRule(CastError):
    def word(self):
        return "no rule"


class Unlike(CastError):
    def word(self):
        return "unlike"


class NoLine(CastError):
    def word(self):
        return "no line"
