"""The refusals: each a class of its own straight beneath ErrandError."""


class ErrandError(ValueError):
    pass


class NoText(ErrandError):
    pass


class NoErrand(ErrandError):
    pass


class TooMany(ErrandError):
    pass


class NoRow(ErrandError):
    pass
