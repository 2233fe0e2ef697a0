"""The errors that calls of this package raise."""


class WrapError(ArithmeticError):
    """The base of all errors of this package."""


class InvalidKind(WrapError):
    """A kind was asked for whose part, "bits" or "is_signed", is not allowed."""

    def __init__(self, part):
        super().__init__(f"{part}")
        self.part = part


class InvalidBound(WrapError):
    """The argument of this name is not one that its function takes."""

    def __init__(self, argument):
        super().__init__(f"{argument}")
        self.argument = argument


class InvalidCall(WrapError):
    """A desk was given something that is not one of its calls."""

    def __init__(self, call):
        # The call may be nested so deep that Python cannot show it.
        super().__init__("no such call")
        self.call = call


class LimitExceeded(WrapError):
    """More was asked for than this limit allows."""

    def __init__(self, limit):
        super().__init__(f"{limit}")
        self.limit = limit
