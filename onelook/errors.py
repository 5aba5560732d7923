"""The refusals: each one a class of its own straight under SheetError, which tells its name."""


class SheetError(ValueError):
    pass


class BadPlace(SheetError):
    def class_name(self):
        return "BadPlace"


class BadArea(SheetError):
    def class_name(self):
        return "BadArea"


class BadText(SheetError):
    def class_name(self):
        return "BadText"


class BadFormula(SheetError):
    def class_name(self):
        return "BadFormula"


class BadContent(SheetError):
    def class_name(self):
        return "BadContent"


class Full(SheetError):
    def class_name(self):
        return "Full"


class NoCell(SheetError):
    def class_name(self):
        return "NoCell"


class NotWaiting(SheetError):
    def class_name(self):
        return "NotWaiting"


class BadCount(SheetError):
    def class_name(self):
        return "BadCount"


class NoRoom(SheetError):
    def class_name(self):
        return "NoRoom"


class BadTable(SheetError):
    def class_name(self):
        return "BadTable"


class NoTable(SheetError):
    def class_name(self):
        return "NoTable"


class NoColumn(SheetError):
    def class_name(self):
        return "NoColumn"


class NoDeed(SheetError):
    def class_name(self):
        return "NoDeed"


class Clash(SheetError):
    def class_name(self):
        return "Clash"
