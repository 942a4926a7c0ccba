"""The refusals: one class each, all of them straight under WebError."""


class WebError(ValueError):
    pass


class NoWeb(WebError):
    pass


class NoPlace(WebError):
    pass


class NoStep(WebError):
    pass


class NoKind(WebError):
    pass


class TooGreat(WebError):
    pass


class NoText(WebError):
    pass


class NoLine(WebError):
    pass


class NoName(WebError):
    pass


class NothingDone(WebError):
    pass
