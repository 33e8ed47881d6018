"""The errors of the package. None of them makes a text of its field: that may be a value of any kind."""


class NetError(ValueError):
    """Any argument that is refused."""


class BadNet(NetError):
    """A value that is no net; place tells of which part this is seen first."""

    def __init__(self, place):
        self.place = place


class BadNumber(NetError):
    """A value that is none of the integers that can stand there."""

    def __init__(self, value):
        self.value = value


class BadRoad(NetError):
    """A value that is no road of the net."""

    def __init__(self, value):
        self.value = value


class BadHead(NetError):
    """A value that is no head of the net."""

    def __init__(self, value):
        self.value = value


class BadFailed(NetError):
    """A value that is no ascending tuple of roads of the net."""

    def __init__(self, value):
        self.value = value


class BadParcel(NetError):
    """A value that is no parcel of the net."""

    def __init__(self, value):
        self.value = value


class BadChoices(NetError):
    """Choices that cannot be taken; place is the number of the first one, or None if they are no tuple."""

    def __init__(self, place):
        self.place = place


class BadShape(NetError):
    """A value that is no shape of the net."""

    def __init__(self, value):
        self.value = value


class BadGoal(NetError):
    """A value that is no goal of the net."""

    def __init__(self, value):
        self.value = value


class BadPaper(NetError):
    """A value that is no paper; word tells which part of the check it fails."""

    def __init__(self, word):
        self.word = word


class OtherNet(NetError):
    """Two nets that are compared have other roads or labels."""


class BadEntries(NetError):
    """Values that are no entries; place is the number of the first one, or None if they are no such tuple."""

    def __init__(self, place):
        self.place = place


class BadLine(NetError):
    """A text that cannot be read; line and word are the numbers of the place, or None if it is no text."""

    def __init__(self, line, word):
        self.line = line
        self.word = word


class TooGreat(OverflowError):
    """More is asked for than the bound, most, lets by."""

    def __init__(self, most):
        self.most = most
