"""The errors of the package: each holds what it was made with."""


class NetError(ValueError):
    """What all errors of the package are."""


class BadAxes(NetError):
    """No number of axes that is allowed here."""

    def __init__(self, axes):
        self.axes = axes


class BadRooms(NetError):
    """No list of one or more unlike names of rooms, or no new name of a room."""

    def __init__(self, words):
        self.words = words


class BadTie(NetError):
    """The thing at this index is no tie."""

    def __init__(self, index):
        self.index = index


class NoTie(NetError):
    """No tie has this name."""

    def __init__(self, name):
        self.name = name


class NoRoom(NetError):
    """No room has this name."""

    def __init__(self, name):
        self.name = name


class TieTaken(NetError):
    """A tie has this name already."""

    def __init__(self, name):
        self.name = name


class UnlikeAxes(NetError):
    """Two nets have unlike numbers of axes."""


class BadRound(NetError):
    """No round, or one that is too long to walk."""

    def __init__(self, thing):
        self.thing = thing


class BadNumber(NetError):
    """No integer that is allowed here."""

    def __init__(self, number):
        self.number = number


class BadLevels(NetError):
    """No levels of the net."""

    def __init__(self, thing):
        self.thing = thing


class BadPlace(NetError):
    """No list of as many integers as there are axes."""

    def __init__(self, thing):
        self.thing = thing


class BadMatrix(NetError):
    """No matrix of the net's axes, or one whose determinant is 0."""

    def __init__(self, matrix):
        self.matrix = matrix


class NoAxis(NetError):
    """No axis of the net."""

    def __init__(self, axis):
        self.axis = axis


class BadSizes(NetError):
    """No list of as many sizes as there are axes."""

    def __init__(self, sizes):
        self.sizes = sizes


class BadKinds(NetError):
    """No number of kinds that is allowed."""

    def __init__(self, kinds):
        self.kinds = kinds


class BadPair(NetError):
    """The thing at this index is no pair of lanes, or none that is asked for."""

    def __init__(self, index):
        self.index = index


class BadOrder(NetError):
    """No list of all axes, signs or kinds as it is asked for."""

    def __init__(self, order):
        self.order = order


class BadDeed(NetError):
    """The thing at this index is no deed."""

    def __init__(self, index):
        self.index = index


class BadText(NetError):
    """The text up to this line begins no text of a net or of Turns."""

    def __init__(self, line):
        self.line = line


class UnlikeGrids(NetError):
    """Two Turns have unlike axes or kinds."""


class BadCosts(NetError):
    """This key of the costs names no tie, or its value is no integer."""

    def __init__(self, name):
        self.name = name
