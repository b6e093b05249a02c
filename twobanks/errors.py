"""The refusals."""


class BankError(ValueError):
    """Any refusal."""


class NoPoint(BankError):
    """A number is no point's of its bank."""


class NoRope(BankError):
    """There is no such rope."""


class Lonely(BankError):
    """Some point has no rope."""
