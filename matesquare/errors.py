"""The refusals: one class for each, all under SquareError."""


class SquareError(ValueError):
    pass


class BadSquare(SquareError):
    pass


class BadPlace(SquareError):
    pass


class BadCut(SquareError):
    pass


class BadBlock(SquareError):
    pass


class BadOrder(SquareError):
    pass


class BadNumber(SquareError):
    pass


class TooBig(SquareError):
    pass


class BadText(SquareError):
    pass
