"""The refusals, each a class of its own."""


class KeepError(ValueError):
    pass


# The classes below make no words of their fields: Python refuses to write out a very long number,
# and making the error must not fail itself.


class NoName(KeepError):
    def __init__(self, name):
        self.name = name


class TooGreat(KeepError):
    def __init__(self, number, most):
        self.number = number
        self.most = most


class NoMeasure(KeepError):
    def __init__(self, place):
        self.place = place


class NoText(KeepError):
    def __init__(self, line):
        self.line = line


class NoLoop(KeepError):
    def __init__(self, place):
        self.place = place
