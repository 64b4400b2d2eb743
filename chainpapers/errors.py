"""The errors of this package."""


class ChainError(ValueError):
    """The base class of all errors of this package."""


class InvalidWord(ChainError):
    """Raised for a word that is not one of those asked for."""


class InvalidName(ChainError):
    """Raised for what is no name, other name or title."""


class InvalidSubtree(ChainError):
    """Raised for what is no subtree, or no tuple of subtrees."""


class InvalidNumber(ChainError):
    """Raised for what is no integer, or no truth value, of those asked for."""


class InvalidRow(ChainError):
    """Raised for what is no row."""


class InvalidCertificate(ChainError):
    """Raised for what is no certificate."""


class InvalidPart(ChainError):
    """Raised for what is no word of a part, or no value of this part."""


class InvalidList(ChainError):
    """Raised for what is no list."""


class InvalidAnchor(ChainError):
    """Raised for what is no anchor."""


class InvalidStore(ChainError):
    """Raised for what is no store."""


class InvalidQuestion(ChainError):
    """Raised for what is no question of a store."""


class TooMany(ChainError):
    """Raised for more than a limit lets."""

    def __init__(self, limit):
        ChainError.__init__(self, f"more than {limit}")
        self.limit = limit


class InvalidValue(ChainError):
    """Raised for what is no value with a row."""


class InvalidChange(ChainError):
    """Raised for what is no change."""


class BadSeal(ChainError):
    """Raised for a file whose last value is not its seal."""


class BadRow(ChainError):
    """Raised for a row with which none goes on at a place."""

    def __init__(self, at):
        ChainError.__init__(self, f"no row goes on at {at}")
        self.at = at


class InvalidRegion(ChainError):
    """Raised for what is no region."""


class InvalidConstraints(ChainError):
    """Raised for what are no constraints."""


class InvalidChain(ChainError):
    """Raised for what is no chain."""


class InvalidUses(ChainError):
    """Raised for what are no uses."""


class InvalidPurposes(ChainError):
    """Raised for what are no purposes."""


class InvalidTimes(ChainError):
    """Raised for what is no set of times."""


class InvalidLimits(ChainError):
    """Raised for what are no limits."""


class InvalidNumbers(ChainError):
    """Raised for what are no numbers of policies."""


class InvalidPath(ChainError):
    """Raised for what is no path."""


class InvalidState(ChainError):
    """Raised for what is no state."""


class InvalidPolicies(ChainError):
    """Raised for what are no policies wanted."""


class InvalidPolicy(ChainError):
    """Raised for what is no policy."""


class InvalidTruth(ChainError):
    """Raised for what is neither True nor False."""


class InvalidSealers(ChainError):
    """Raised for what are no sealers."""


class InvalidDelta(ChainError):
    """Raised for a delta that can not be laid on a whole list."""


class InvalidHistory(ChainError):
    """Raised for what is no history."""


class InvalidTargets(ChainError):
    """Raised for what are no targets."""


class InvalidTime(ChainError):
    """Raised for what are no times, the first one at most the second one."""
