"""Drawings that are built: what is wrong with others, what is where in them, and how they look."""

from threeexits.cells import across, inside, over_cells
from threeexits.drawing import is_frame
from threeexits.errors import NoDrawing, NoNumber, NoPoint
from threeexits.places import many_places, rooms, walls_by_step
from threeexits.points import are_points, is_point, lowest, onward, stretched, turn
from threeexits.webs import is_integer, steps_of

MOST_CELLS = 60
OUT_SIGN = "."
LINE_SIGN = "#"
ROOM_SIGNS = "abcdefghijklmnopqrstuvwxyzABCDEFGHIJKLMNOPQRSTUVWXYZ"


def fault(plan, thing):
    """What first keeps this from being a built drawing of the plan, or None."""
    if not are_points(thing, many_places(plan)):
        return ("form",)
    if not is_frame(plan.sides, thing[:plan.sides]):
        return ("frame",)
    _, points = stretched(thing)
    for number, along in enumerate(plan.walls):
        if not is_straight([points[place] for place in along]):
            return "wall", number
    strokes = walls_by_step(plan)
    for number, rim in enumerate(rooms(plan)):
        if not turns_left(points, strokes, rim) or not goes_round_once([points[place] for place in rim]):
            return "room", number
    return None


def is_built(plan, thing):
    """Whether it is a built drawing of the plan."""
    return fault(plan, thing) is None


def is_straight(points):
    """Whether the points are on one line, in their order, none like the next one."""
    if points[0] == points[1]:
        return False
    return all([turn(one, here, other) == 0 and onward(one, here, other) > 0
                for one, here, other in zip(points, points[1:], points[2:])])


def turns_left(points, strokes, rim):
    """Whether who walks round a room turns left wherever the way doesn't go on along one wall."""
    for one, here, other in zip(rim[-1:] + rim[:-1], rim, rim[1:] + rim[:1]):
        # Along one wall the way is straight: fault looks at the walls ahead of the rooms.
        if strokes[one, here] != strokes[here, other] and turn(points[one], points[here], points[other]) <= 0:
            return False
    return True


def goes_round_once(points):
    """Whether a walk that turns left, and never by half a turn or more, turns once round in all."""
    # Each time round it heads upward for a while, and for a while it doesn't.
    ways = [one[1] < other[1] for one, other in zip(points, points[1:] + points[:1])]
    return len([way for way, later in zip(ways, ways[1:] + ways[:1]) if way != later]) == 2


def areas(plan, drawing):
    """The tuple of the areas of all rooms."""
    if not is_built(plan, drawing):
        raise NoDrawing()
    greater, points = stretched(drawing)
    return tuple([lowest(doubled_area([points[place] for place in rim]), 2 * greater) for rim in rooms(plan)])


def doubled_area(points):
    """Twice the area around which the points go to the left."""
    return sum([one[0] * other[1] - one[1] * other[0] for one, other in zip(points, points[1:] + points[:1])])


def hit(plan, drawing, point):
    """What is at a point: a place, a wall, a room, or nothing of the drawing."""
    if not is_built(plan, drawing):
        raise NoDrawing()
    if not is_point(point):
        raise NoPoint()
    _, points = stretched(drawing + (point,))
    aim = points.pop()
    if aim in points:
        return "place", points.index(aim)
    for number, along in enumerate(plan.walls):
        if is_between(aim, points[along[0]], points[along[-1]]):
            return "wall", number
    for number, rim in enumerate(rooms(plan)):
        if all([turn(points[one], points[other], aim) > 0 for one, other in steps_of(rim)]):
            return "room", number
    return ("out",)


def is_between(aim, one, other):
    """Whether a point is on the line between two others."""
    return turn(one, aim, other) == 0 and onward(one, aim, other) > 0


def picture(plan, drawing, wide, high):
    """The list of the lines of a picture of the drawing, so many signs wide and so many lines high."""
    if not is_built(plan, drawing):
        raise NoDrawing()
    if not is_size(wide) or not is_size(high):
        raise NoNumber()
    _, points = stretched(drawing)
    # The frame is around all places, so the box around them is the box around it.
    width, rights = over_cells([point[0] for point in points], wide)
    height, ups = over_cells([point[1] for point in points], high)
    placed = list(zip(rights, ups))
    outlines = [[placed[place] for place in rim] for rim in rooms(plan)]
    return [line_of_signs(placed[:plan.sides], outlines, (2 * row + 1) * height, width, wide)
            for row in reversed(range(high))]


def is_size(thing):
    """Whether a picture can be so wide or so high."""
    return is_integer(thing) and 1 <= thing <= MOST_CELLS


def line_of_signs(frame, outlines, level, width, wide):
    """The line of a picture for the cells whose middles are at this level."""
    signs = [OUT_SIGN] * wide
    # The rooms fill the frame, so whatever of it is inside of none is on its lines.
    for column in across(frame, level, width):
        signs[column] = LINE_SIGN
    for number, outline in enumerate(outlines):
        for column in inside(outline, level, width):
            signs[column] = ROOM_SIGNS[number % len(ROOM_SIGNS)]
    return "".join(signs)
