"""Frames, weights, and the drawings that they lead to."""

from threeexits.errors import Narrow, NoFrame, NoSides, NoWeights
from threeexits.lots import narrow
from threeexits.means import solved
from threeexits.places import lies_on, many_places
from threeexits.plans import are_sides
from threeexits.points import are_points, is_fraction, over_one_bottom, stretched, turn


def is_frame(sides, thing):
    """Whether it is a frame of so many corners."""
    if not are_points(thing, sides):
        return False
    _, corners = stretched(thing)
    return all([is_side(corners, at) for at in range(sides)])


def is_side(corners, at):
    """Whether all other corners lie to the left of the way from the corner ahead to this one."""
    one, here = corners[at - 1], corners[at]
    others = [corner for number, corner in enumerate(corners) if number not in (at, (at - 1) % len(corners))]
    return all([turn(one, here, other) > 0 for other in others])


def is_weights(plan, thing):
    """Whether it is weights of the plan."""
    if not isinstance(thing, tuple) or len(thing) != many_places(plan):
        return False
    return all([is_weight(plan, place, item) for place, item in enumerate(thing)])


def is_weight(plan, place, thing):
    """Whether it is what weights may have for this place."""
    if place < plan.sides:
        return thing is None
    if lies_on(plan, place) is not None:
        return is_fraction(thing) and 0 < thing[0] < thing[1]
    return are_shares(len(plan.rounds[place]), thing)


def are_shares(many, thing):
    """Whether it is a tuple of so many fractions above 0 that are 1 together."""
    if not isinstance(thing, tuple) or len(thing) != many:
        return False
    if not all([is_fraction(item) and item[0] > 0 for item in thing]):
        return False
    bottom, tops = over_one_bottom(thing)
    return sum(tops) == bottom


def plain_frame(sides):
    """The frame with corner i at (i, i * i)."""
    if not are_sides(sides):
        raise NoSides()
    return tuple([((corner, 1), (corner * corner, 1)) for corner in range(sides)])


def even_weights(plan):
    """The weights by which each place is midway, or at the mean of all, between its neighbours."""
    return tuple([even_weight(plan, place) for place in range(many_places(plan))])


def even_weight(plan, place):
    """What even weights have for this place."""
    if place < plan.sides:
        return None
    if lies_on(plan, place) is not None:
        return 1, 2
    many = len(plan.rounds[place])
    return ((1, many),) * many


def drawing(plan, frame, weights):
    """The drawing of a plan in a frame, by weights."""
    if not is_frame(plan.sides, frame):
        raise NoFrame()
    if not is_weights(plan, weights):
        raise NoWeights()
    lot = narrow(plan)
    if lot is not None:
        raise Narrow(lot)
    return placed(plan, frame, weights)


def placed(plan, frame, weights):
    """The points of all places, by a frame and weights, for a plan without narrow lots."""
    others = range(plan.sides, many_places(plan))
    return solved(frame, {place: mean_of(plan, place, weights[place]) for place in others})


def mean_of(plan, place, weight):
    """The mean at which a place is: a dict from its neighbours to integers."""
    number = lies_on(plan, place)
    if number is None:
        _, tops = over_one_bottom(weight)
        return dict(zip(plan.rounds[place], tops))
    along = plan.walls[number]
    at = along.index(place)
    top, bottom = weight
    return {along[at - 1]: bottom - top, along[at + 1]: top}
