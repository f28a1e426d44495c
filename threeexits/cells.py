"""Rows of cells: in which of them the middle is in an outline.

An outline is the list of the corners of a convex polygon, also of places on its
sides, as one walks round. The middle of cell k along an axis is at (2 * k + 1) * size.
"""


def over_cells(numbers, many):
    """The size for so many cells that go from the least to the greatest number, and the numbers moved there."""
    least = min(numbers)
    return max(numbers) - least, [2 * many * (number - least) for number in numbers]


def across(outline, level, size):
    """The list of the cells whose middles are in the outline or on it, at a level between its lowest and highest."""
    met = crossings(outline, level)
    return list(range(min([many_ahead(crossing, size) for crossing in met]),
                      max([many_up_to(crossing, size) for crossing in met])))


def inside(outline, level, size):
    """The list of the cells whose middles are in the outline and not on it, at any level."""
    ups = [point[1] for point in outline]
    if not min(ups) < level < max(ups):
        return []
    met = crossings(outline, level)
    return list(range(min([many_up_to(crossing, size) for crossing in met]),
                      max([many_ahead(crossing, size) for crossing in met])))


def crossings(outline, level):
    """The two crossings of the outline with a level between its lowest and highest.

    Each is how far right it is, as a pair of top and bottom, perhaps both below 0.
    """
    met = []
    for one, other in zip(outline, outline[1:] + outline[:1]):
        if (one[1] <= level) != (other[1] <= level):
            rise = other[1] - one[1]
            met.append((one[0] * rise + (other[0] - one[0]) * (level - one[1]), rise))
    return met


def many_ahead(crossing, size):
    """How many cells have their middles left of a crossing."""
    top, bottom = crossing
    return -((size * bottom - top) // (2 * size * bottom))


def many_up_to(crossing, size):
    """How many cells have their middles left of a crossing or at it."""
    top, bottom = crossing
    return (top + size * bottom) // (2 * size * bottom)
