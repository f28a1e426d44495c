"""Places at means of other places, all worked out at once."""

from math import gcd

from threeexits.points import lowest, over_one_bottom


def solved(corners, means):
    """The tuple of the points of all places: the corners', and each other place at the mean that is told for it.

    A mean is a dict from places to integers above 0, by which each of them counts.
    """
    left = {place: lessened(mean) for place, mean in means.items()}
    order = []
    while left:
        place = easiest(left)
        mean = left.pop(place)
        order.append((place, mean))
        for other in list(left):
            if place in left[other]:
                left[other] = put_in(left[other], other, place, mean)
    points = list(corners) + [None] * len(means)
    for place, mean in reversed(order):
        points[place] = mean_point(mean, points)
    return tuple(points)


def easiest(means):
    """The place that takes the least work to put into the means of the others."""
    uses = {place: 0 for place in means}
    for mean in means.values():
        for near in mean:
            if near in uses:
                uses[near] += 1
    return min([(uses[place] * len(mean), place) for place, mean in means.items()])[1]


def put_in(mean, own, place, inner):
    """The mean of the place `own`, with the mean `inner` of another place put in for that place."""
    whole = sum(inner.values())
    share = mean[place]
    found = {near: whole * many for near, many in mean.items() if near != place}
    for near, many in inner.items():
        # What a place counts in its own mean only lets the others count for more.
        if near != own:
            found[near] = found.get(near, 0) + share * many
    return lessened(found)


def lessened(mean):
    """The same mean by the least integers."""
    shared = 0
    for many in mean.values():
        shared = gcd(shared, many)
    return {near: many // shared for near, many in mean.items()}


def mean_point(mean, points):
    """The mean of points that are known."""
    return mean_along(mean, points, 0), mean_along(mean, points, 1)


def mean_along(mean, points, axis):
    """How far right (axis 0) or how far up (axis 1) the mean is."""
    bottom, tops = over_one_bottom([points[near][axis] for near in mean])
    top = sum([many * along for many, along in zip(mean.values(), tops)])
    return lowest(top, bottom * sum(mean.values()))
