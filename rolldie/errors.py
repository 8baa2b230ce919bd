"""The refusals: one class for each, all of them under DieError."""


class DieError(ValueError):
    pass


class NoFloor(DieError):
    pass


class NoCell(DieError):
    pass


class NoLie(DieError):
    pass


class NoRoll(DieError):
    pass


class NoWay(DieError):
    pass
