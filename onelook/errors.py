"""The refusals: each one a class of its own straight under SheetError."""


class SheetError(ValueError):
    pass


class BadPlace(SheetError):
    pass


class BadArea(SheetError):
    pass


class BadText(SheetError):
    pass


class BadFormula(SheetError):
    pass


class BadContent(SheetError):
    pass


class Full(SheetError):
    pass


class NoCell(SheetError):
    pass


class NotWaiting(SheetError):
    pass


class BadCount(SheetError):
    pass


class NoRoom(SheetError):
    pass


class BadTable(SheetError):
    pass


class NoTable(SheetError):
    pass


class NoColumn(SheetError):
    pass


class NoDeed(SheetError):
    pass


class Clash(SheetError):
    pass
