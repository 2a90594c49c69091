"""The refusals: each is a class of its own right under PlaitError."""


class PlaitError(ValueError):
    pass


class NotADrawing(PlaitError):
    def __init__(self, fault):
        self.fault = fault


class NoCrossing(PlaitError):
    pass


class TooBig(PlaitError):
    pass


class NoUnit(PlaitError):
    pass


class NotClosed(PlaitError):
    pass


class NoFit(PlaitError):
    pass


class TooMuch(PlaitError):
    pass


class NoMove(PlaitError):
    pass


class NoChain(PlaitError):
    def __init__(self, at):
        self.at = at


class NoPrime(PlaitError):
    pass


class NoLine(PlaitError):
    pass
