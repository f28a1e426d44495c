"""Moves: weights that are read off drawings, and drawings on the way from one drawing to another."""

from threeexits.built import is_built
from threeexits.drawing import is_weights, mean_of, placed
from threeexits.errors import NoDrawing, NoMoment, NoWeights, OtherFrame
from threeexits.places import lies_on, many_places
from threeexits.points import is_fraction, lowest, stretched


def weights_of(plan, drawing):
    """Weights by which a built drawing is the drawing in its frame."""
    if not is_built(plan, drawing):
        raise NoDrawing()
    _, points = stretched(drawing)
    return tuple([weight_at(plan, points, place) for place in range(many_places(plan))])


def weight_at(plan, points, place):
    """What weights have for this place, so that it is at its point."""
    if place < plan.sides:
        return None
    number = lies_on(plan, place)
    if number is None:
        right, up = points[place]
        return shares_of([(points[near][0] - right, points[near][1] - up) for near in plan.rounds[place]])
    along = plan.walls[number]
    at = along.index(place)
    return part_of_way(points[along[at - 1]], points[place], points[along[at + 1]])


def part_of_way(one, here, other):
    """Which part of the way from one point to another is gone at a point between them."""
    axis = 0 if one[0] != other[0] else 1
    return lowest(abs(here[axis] - one[axis]), abs(other[axis] - one[axis]))


def shares_of(ways):
    """Fractions above 0, 1 together, by which the mean of these ways is no way at all.

    The ways lead from a place to its neighbours, in the order of its round, each
    less than half a turn behind the one ahead of it.
    """
    shares = [0] * len(ways)
    # Each way is balanced by the two between which the way against it leads, so
    # each gets a share; the triangles between three ways tell how much of each.
    for own, way in enumerate(ways):
        for other in range(len(ways)):
            ahead = (other - 1) % len(ways)
            if across(way, ways[ahead]) >= 0 > across(way, ways[other]):
                shares[own] += across(ways[ahead], ways[other])
                shares[ahead] += across(ways[other], way)
                shares[other] += across(way, ways[ahead])
    whole = sum(shares)
    return tuple([lowest(share, whole) for share in shares])


def across(way, other):
    """Twice the triangle between two ways, above 0 if the other one leads to the left of the way."""
    return way[0] * other[1] - way[1] * other[0]


def is_weights_of(plan, drawing, thing):
    """Whether these are weights by which a built drawing is the drawing in its frame."""
    if not is_built(plan, drawing):
        raise NoDrawing()
    if not is_weights(plan, thing):
        return False
    _, points = stretched(drawing)
    others = range(plan.sides, many_places(plan))
    return all([is_mean(points, place, mean_of(plan, place, thing[place])) for place in others])


def is_mean(points, place, mean):
    """Whether a place is at this mean of others."""
    return all([sum([many * (points[near][axis] - points[place][axis]) for near, many in mean.items()]) == 0
                for axis in (0, 1)])


def mixed(plan, one, other, moment):
    """The weights at a moment of the straight way from one weights to other weights."""
    if not is_weights(plan, one) or not is_weights(plan, other):
        raise NoWeights()
    if not is_moment(moment):
        raise NoMoment()
    return tuple([mixed_weight(weight, later, moment) for weight, later in zip(one, other)])


def is_moment(thing):
    """Whether it is a fraction from 0 to 1."""
    return is_fraction(thing) and 0 <= thing[0] <= thing[1]


def mixed_weight(one, other, moment):
    """What the weights at a moment have for a place, by what both weights have for it."""
    if one is None:
        return None
    if is_fraction(one):
        return between(one, other, moment)
    return tuple([between(share, later, moment) for share, later in zip(one, other)])


def between(one, other, moment):
    """The fraction at a moment of the way from one fraction to another."""
    gone, whole = moment
    top = (whole - gone) * one[0] * other[1] + gone * other[0] * one[1]
    return lowest(top, whole * one[1] * other[1])


def lead(plan, one, other, moment):
    """The drawing at a moment of the way from one built drawing to another in the same frame."""
    if not is_built(plan, one) or not is_built(plan, other):
        raise NoDrawing()
    frame = one[:plan.sides]
    if other[:plan.sides] != frame:
        raise OtherFrame()
    if not is_moment(moment):
        raise NoMoment()
    return placed(plan, frame, mixed(plan, weights_of(plan, one), weights_of(plan, other), moment))
