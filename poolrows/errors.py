"""The errors that the program raises."""


class PoolError(ValueError):
    """The base class of all errors."""


class BadNet(PoolError):
    """The value is no net: index is the place of its first wrong rule, None if it has no such rules at all."""

    def __init__(self, index):
        super().__init__(f"this is no net (index {index})")
        self.index = index


class BadRow(PoolError):
    """The value is no filling: index is its first wrong place, None if it has no such places at all."""

    def __init__(self, index):
        super().__init__(f"this is no filling of a row (index {index})")
        self.index = index


class BadDeed(PoolError):
    """The value is no deed of the row, or it can't be done."""


class BadRun(PoolError):
    """The value is no run: index is the first deed that can't be done, None if it is no tuple of deeds."""

    def __init__(self, index):
        super().__init__(f"this is no run from the row (index {index})")
        self.index = index


class BadOrder(PoolError):
    """The value does not name all pools, each once."""


class BadPools(PoolError):
    """The value is no ascending tuple of pools."""


class NotEnding(PoolError):
    """Some run goes on for ever."""


class NotText(PoolError):
    """The value is not a string."""


class InvalidText(PoolError):
    """The text names no net: place is the index of the first character that cannot stand."""

    def __init__(self, place):
        super().__init__(f"this text names no net (place {place})")
        self.place = place


class TooMany(PoolError):
    """There are more than the most that may be."""

    def __init__(self, most):
        super().__init__(f"there are more than {most}")
        self.most = most
