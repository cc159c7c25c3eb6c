"""The refusals, each a class of its own straight under CurveError."""


class CurveError(ValueError):
    pass


class NoNumber(CurveError):
    pass


class NoCurve(CurveError):
    pass


class NoPoints(CurveError):
    pass


class TooMany(CurveError):
    pass


class NoPoint(CurveError):
    pass


class NoStretch(CurveError):
    pass


class TooDeep(CurveError):
    pass


class TooFew(CurveError):
    pass


class NoText(CurveError):
    pass


class NoRow(CurveError):
    pass
