"""The refusals: one class each, all of them under EverError."""


class EverError(ValueError):
    pass


class NoFormula(EverError):
    pass


class NoChart(EverError):
    pass


class NoStep(EverError):
    pass


class NoLine(EverError):
    pass


class NoName(EverError):
    pass


class NoBar(EverError):
    pass


class NotShut(EverError):
    pass


class NoFrame(EverError):
    pass


class NoFence(EverError):
    pass


class NoMachine(EverError):
    pass


class NothingLeft(EverError):
    pass


class TooMany(EverError):
    pass
