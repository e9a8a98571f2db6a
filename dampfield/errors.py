"""The refusals of the program, one class each."""


class FieldError(ValueError):
    pass


class BadView(FieldError):
    pass


class BadLaying(FieldError):
    pass


class NoCell(FieldError):
    pass


class TooGreat(FieldError):
    pass


class Impossible(FieldError):
    pass


class NotOpen(FieldError):
    pass


class Over(FieldError):
    pass
