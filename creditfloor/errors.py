"""The exceptions of the package, one class for each kind of failure."""


class CreditError(ValueError):
    """The base class of all exceptions of the package."""


class BadDemand(CreditError):
    """The value is not a demand of these senders."""

    def __init__(self, value):
        self.value = value


class Stall(CreditError):
    """The value is the tuple of the senders that stall."""

    def __init__(self, value):
        self.value = value


class NoSender(CreditError):
    """The value is not the index of a sender."""

    def __init__(self, value):
        self.value = value


class NotSafe(CreditError):
    """The value is the first weak set."""

    def __init__(self, value):
        self.value = value


class OtherTotal(CreditError):
    """The value is a total that differs from the one required."""

    def __init__(self, value):
        self.value = value


class TooMany(CreditError):
    """The value is the limit that is passed."""

    def __init__(self, value):
        self.value = value


class BadNumber(CreditError):
    """There are no minimal balances with the number that is the value."""

    def __init__(self, value):
        self.value = value


class NotMinimal(CreditError):
    """The value is balances that are not minimal."""

    def __init__(self, value):
        self.value = value


class BadName(CreditError):
    """The value is not a name."""

    def __init__(self, value):
        self.value = value


class TakenName(CreditError):
    """The value is a name that a sender has already."""

    def __init__(self, value):
        self.value = value


class UnknownName(CreditError):
    """The value is not the name of a sender."""

    def __init__(self, value):
        self.value = value


class BadAmount(CreditError):
    """The value is not an amount of credits."""

    def __init__(self, value):
        self.value = value


class BadBudget(CreditError):
    """The value is not a budget."""

    def __init__(self, value):
        self.value = value


class BadSpends(CreditError):
    """The value is not of the form that a tick takes."""

    def __init__(self, value):
        self.value = value


class OverBudget(CreditError):
    """The value is a sum of amounts that is above the budget."""

    def __init__(self, value):
        self.value = value


class Refused(CreditError):
    """The value is the first weak set after a change that was not made."""

    def __init__(self, value):
        self.value = value


class BadText(CreditError):
    """The value is the number of the first wrong row."""

    def __init__(self, value):
        self.value = value


class BadCommand(CreditError):
    """The value is not a command line."""

    def __init__(self, value):
        self.value = value


class AlreadySafe(CreditError):
    """There is no attack on safe balances."""


class FullLink(CreditError):
    """A link has as many senders as it can have."""


class NothingToUndo(CreditError):
    """A link has no change that can be taken back."""
