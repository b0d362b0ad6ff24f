"""All refusals of the package, each straight under SwapError."""


class SwapError(ValueError):
    """Any refusal."""


class NoText(SwapError):
    """Not the text of a kind."""


class NoKind(SwapError):
    """Not a kind, or not a list of kinds."""


class NoForm(SwapError):
    """Not a form."""


class NoSizes(SwapError):
    """Not the sizes of the bases."""


class TooMany(SwapError):
    """More worths than are told."""


class NoDivisor(SwapError):
    """Not a divisor by which rests are told."""


class NoWorth(SwapError):
    """Not a worth of the kind that is asked for."""


class NoTerm(SwapError):
    """Not a term, or one without the kind that is asked for."""


class Unlike(SwapError):
    """Two kinds that are not alike; apart is what tells them from one another."""

    def __init__(self, apart):
        SwapError.__init__(self, "the kinds are not alike")
        self.apart = apart


class NoLibrary(SwapError):
    """Not a library."""


class NoName(SwapError):
    """Not a name in the library."""
