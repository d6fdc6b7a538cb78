"""The refusals: MarkError is any of them, and none of the others is below another."""


class MarkError(ValueError):
    pass


class NoThing(MarkError):
    pass


class NoText(MarkError):
    pass


class NoQuestion(MarkError):
    pass


class NoAnswer(MarkError):
    pass


class NoRoom(MarkError):
    pass
