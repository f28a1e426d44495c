"""The desk at which a live plan is edited."""

from threeexits.drawing import drawing, even_weights, placed, plain_frame
from threeexits.editing import cut, join, put, strike
from threeexits.errors import NoDeed, NothingDone
from threeexits.growing import bare
from threeexits.lots import can_build, narrow
from threeexits.places import mirrored, renamed

# How many things stand behind the word of a deed.
BEHIND = {"put": 3, "strike": 1, "cut": 1, "join": 3, "mirror": 0, "turn": 1}


class Desk:
    """A live plan and the log of the deeds that led to it."""

    def __init__(self, sides):
        self._plan = bare(sides)
        # Each deed that was done, with the plan ahead of it.
        self._past = []

    def do(self, deed):
        """Does a deed, or leaves all as it is where that can't be."""
        found = behind_deed(self._plan, deed)
        self._past.append((deed, self._plan))
        self._plan = found

    def back(self):
        """Takes the last deed back."""
        if not self._past:
            raise NothingDone()
        _, self._plan = self._past.pop()

    def plan(self):
        """The plan as it is now."""
        return self._plan

    def log(self):
        """The list of the deeds done and not taken back."""
        return [deed for deed, _ in self._past]

    def corners(self):
        """How many corners the frame has."""
        return self._plan.sides

    def copy(self):
        """A desk with the same plan and log, which goes on by itself."""
        other = Desk(self._plan.sides)
        other._plan = self._plan
        other._past = list(self._past)
        return other

    def narrow(self):
        """A narrow lot of the plan, or None."""
        return narrow(self._plan)

    def draw(self, frame):
        """The drawing of the plan in a frame, by even weights."""
        return drawing(self._plan, frame, even_weights(self._plan))

    def changed(self):
        """The ascending tuple of the places that stand where none stood ahead of the last deed, or None."""
        if not self._past:
            return None
        _, ahead = self._past[-1]
        if not can_build(ahead) or not can_build(self._plan):
            return None
        stood = plain_drawing(ahead)
        return tuple([place for place, point in enumerate(plain_drawing(self._plan)) if point not in stood])


def behind_deed(plan, deed):
    """The plan behind a deed."""
    if not is_deed(deed):
        raise NoDeed()
    word = deed[0]
    if word == "put":
        return put(plan, deed[1], deed[2], deed[3])
    if word == "strike":
        return strike(plan, deed[1])
    if word == "cut":
        return cut(plan, deed[1])
    if word == "join":
        return join(plan, deed[1], deed[2], deed[3])
    if word == "mirror":
        return mirrored(plan)
    return renamed(plan, deed[1])


def is_deed(thing):
    """Whether it is a tuple of the word of a deed and so many things behind it."""
    if not isinstance(thing, tuple) or thing == () or not isinstance(thing[0], str):
        return False
    return BEHIND.get(thing[0]) == len(thing) - 1


def plain_drawing(plan):
    """The drawing of a plan without narrow lots in the plain frame, by even weights."""
    return placed(plan, plain_frame(plan.sides), even_weights(plan))
