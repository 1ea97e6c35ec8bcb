"""The refusals, each a class of its own straight under EvenError."""


class EvenError(ValueError):
    """Any refusal."""


class NoWeb(EvenError):
    """Hands and ties that make no web."""


class NoHand(EvenError):
    """No hand of the web."""


class NoGoods(EvenError):
    """Pieces that make no goods."""


class NoPiece(EvenError):
    """No piece of the goods."""


class NoStand(EvenError):
    """No stand of the goods."""


class NoMove(EvenError):
    """The move at place k that can't be made, and the reason."""

    def __init__(self, k, reason):
        EvenError.__init__(self, k, reason)
        self.k = k
        self.reason = reason


class NoRule(EvenError):
    """No rule."""


class NotLetBy(EvenError):
    """A rule that is not let by."""


class NoMoment(EvenError):
    """No moment, or no number of moments."""


class NoMost(EvenError):
    """No number of moments, stands or moves to go to at most."""


class NoWeight(EvenError):
    """No weight of a piece."""


class NoFraction(EvenError):
    """No fraction."""


class NoText(EvenError):
    """No text of a web, of goods or of moves."""


class NoRow(EvenError):
    """No row that a desk takes."""


class NoYard(EvenError):
    """A desk without a yard."""
