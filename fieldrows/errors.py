"""The refusals: each stands straight under FieldError, so that one name takes them all."""


class FieldError(ValueError):
    pass


class TooMuch(FieldError):
    pass


class NoLine(FieldError):
    pass


class NoName(FieldError):
    pass


class NoKind(FieldError):
    pass
