"""The errors of the package."""


class StrokeError(ValueError):
    """Whatever goes wrong in the package is an error of this kind."""


class NoPlace(StrokeError):
    """No place of the plan has this number."""


class NoNames(StrokeError):
    """These are no names by which the places of the plan could be renamed."""


class NoWalls(StrokeError):
    """These are no walls that hang together."""


class NoLot(StrokeError):
    """This is no lot of the plan."""


class NoSides(StrokeError):
    """No plan has so many sides."""


class NoFrame(StrokeError):
    """This is no frame with so many corners."""


class NoWeights(StrokeError):
    """These are no weights of the plan."""


class NoDrawing(StrokeError):
    """This is no drawing of the kind that is asked for."""


class NoPoint(StrokeError):
    """This is no point."""


class NoNumber(StrokeError):
    """This is no number within the limits."""


class OtherFrame(StrokeError):
    """The two drawings have unlike frames."""


class NoMoment(StrokeError):
    """This is no fraction from 0 to 1."""


class NoRoom(StrokeError):
    """No room of the plan has this number."""


class NoSpot(StrokeError):
    """This is no spot of the room."""


class SameWall(StrokeError):
    """Both spots are of one wall."""


class Full(StrokeError):
    """There would be too many places or walls."""


class NoWall(StrokeError):
    """No wall that may be taken has this number."""


class NotCut(StrokeError):
    """The place lies on no wall that can be cut."""


class NotJoined(StrokeError):
    """The two walls can't become one at this place."""


class NoPlaces(StrokeError):
    """These are no places that can be cut."""


class NoDeed(StrokeError):
    """This is no deed of a desk."""


class NothingDone(StrokeError):
    """There is no deed to take back."""


class NoText(StrokeError):
    """This is no string."""


class NoJournal(StrokeError):
    """The text doesn't begin as a journal does."""


class BadPlan(StrokeError):
    """This is no plan: `part` is what fails first."""

    def __init__(self, part):
        self.part = part


class TooMany(StrokeError):
    """There are more than `most` of what would be tried in all ways."""

    def __init__(self, most):
        self.most = most


class Narrow(StrokeError):
    """Nothing can be drawn: `lot` is a narrow lot."""

    def __init__(self, lot):
        self.lot = lot


class NoGrowth(StrokeError):
    """The triple number `index` can't be put; -1: there are no triples."""

    def __init__(self, index):
        self.index = index


class BadText(StrokeError):
    """The line number `line`, counted from 1 on, is not as it must be."""

    def __init__(self, line):
        self.line = line
