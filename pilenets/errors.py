"""The refusals: one class for each kind, each straight under PileError."""


class PileError(ValueError):
    """Any refusal."""


class NoNet(PileError):
    """Stations and ways that make no net."""


class NoRow(PileError):
    """A list that is no row, or not one of the kind that is due."""


class NoMove(PileError):
    """A move that is none of the net's, or that may not be done."""


class NoPlace(PileError):
    """A list that tells no places of a row."""


class NoDoing(PileError):
    """A doing that does not bring the row out."""


class TooMany(PileError):
    """More standings than are sought through."""


class NoNumber(PileError):
    """A number outside of what is let."""


class NoMark(PileError):
    """A list that gives no lines or piles to the places of a row."""


class NoText(PileError):
    """A text that writes nothing that can be read."""


class NoForm(PileError):
    """A row told to the desk that has none of its forms."""


class NoneYet(PileError):
    """A net or a row that is asked of the desk before it is there."""
