"""The errors of texts, and of what is done by texts."""

from chainpapers.errors import ChainError


class InvalidText(ChainError):
    """Raised for what is no string of at most 20000 characters."""


class BadText(ChainError):
    """Raised for a text that is refused at a place."""

    def __init__(self, place):
        ChainError.__init__(self, f"nothing that can be read goes on so at {place}")
        self.place = place


class InvalidSort(ChainError):
    """Raised for what is no sort of texts."""


class InvalidSteps(ChainError):
    """Raised for what are no steps between stores."""


class IsThere(ChainError):
    """Raised for what is there already."""


class NotThere(ChainError):
    """Raised for what is not there."""


class NothingToUndo(ChainError):
    """Raised where no deed is in force."""


class NothingToRedo(ChainError):
    """Raised where no deed was taken back last."""
