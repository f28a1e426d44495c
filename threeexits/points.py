"""Fractions and points: told from other things, and made whole numbers to reckon with."""

from math import gcd, lcm

from threeexits.webs import is_row


def is_fraction(thing):
    """Whether it is a fraction."""
    return is_row(thing) and len(thing) == 2 and thing[1] >= 1 and gcd(thing[0], thing[1]) == 1


def is_point(thing):
    """Whether it is a point."""
    return isinstance(thing, tuple) and len(thing) == 2 and is_fraction(thing[0]) and is_fraction(thing[1])


def are_points(thing, many):
    """Whether it is a tuple of so many points."""
    return isinstance(thing, tuple) and len(thing) == many and all([is_point(item) for item in thing])


def lowest(top, bottom):
    """The fraction that is top / bottom, for a bottom above 0."""
    shared = gcd(top, bottom)
    return top // shared, bottom // shared


def over_one_bottom(fractions):
    """A bottom that all of the fractions can have, and the list of the tops that they have over it."""
    bottom = 1
    for fraction in fractions:
        bottom = lcm(bottom, fraction[1])
    return bottom, [top * (bottom // own) for top, own in fractions]


def stretched(points):
    """How many times greater all areas become, and the list of the points at whole numbers.

    Each of the two directions is stretched by itself; lines, the order along them
    and turns to the left and to the right stay as they are.
    """
    wider, rights = over_one_bottom([point[0] for point in points])
    higher, ups = over_one_bottom([point[1] for point in points])
    return wider * higher, list(zip(rights, ups))


def turn(one, here, other):
    """Above 0 if one turns left at `here`, on the way from `one` to `other`, below 0 if right, 0 on one line."""
    return (here[0] - one[0]) * (other[1] - here[1]) - (here[1] - one[1]) * (other[0] - here[0])


def onward(one, here, other):
    """Above 0 if both steps lead the same way, where the points are on one line; 0 if two are alike."""
    return (here[0] - one[0]) * (other[0] - here[0]) + (here[1] - one[1]) * (other[1] - here[1])
