"""Editing: walls put across rooms, struck, cut and joined."""

from threeexits.errors import Full, NoPlace, NoRoom, NoSpot, NotCut, NotJoined, NoWall, SameWall
from threeexits.places import is_place, is_star, lies_on, many_places, rooms, walls_at, walls_by_step
from threeexits.plans import MOST_PLACES, MOST_WALLS, Plan
from threeexits.webs import is_integer, is_row, steps_of

AT = "at"
IN = "in"


def put(plan, room, one, other):
    """The plan with a wall put across a room, from one spot to another."""
    rims = rooms(plan)
    if not is_integer(room) or not 0 <= room < len(rims):
        raise NoRoom()
    rim = rims[room]
    if not is_spot(rim, one) or not is_spot(rim, other):
        raise NoSpot()
    if [number for number in walls_of(plan, one) if number in walls_of(plan, other)]:
        raise SameWall()
    more = len([spot for spot in (one, other) if spot[0] == IN])
    if many_places(plan) + more > MOST_PLACES or len(plan.walls) == MOST_WALLS:
        raise Full()
    return with_stroke(plan, rim, one, other)


def is_spot(rim, thing):
    """Whether it is a spot of the room with this rim."""
    if not isinstance(thing, tuple) or not is_row(thing[1:]):
        return False
    if len(thing) == 2:
        return thing[0] == AT and rim.count(thing[1]) == 1
    steps = steps_of(rim)
    return len(thing) == 3 and thing[0] == IN and thing[1:] in steps and (thing[2], thing[1]) not in steps


def walls_of(plan, spot):
    """The tuple of the numbers of the walls of which a spot is."""
    if spot[0] == AT:
        return walls_at(plan, spot[1])
    return (walls_by_step(plan)[spot[1:]],)


def with_stroke(plan, rim, one, other):
    """The plan with a wall from one spot to another of the room with this rim."""
    walls = list(plan.walls)
    rounds = list(plan.rounds)
    ends = []
    for spot in (one, other):
        if spot[0] == AT:
            ends.append((spot[1], rim[rim.index(spot[1]) - 1]))
        else:
            ends.append((len(rounds), spot[1]))
            walls, rounds = with_place(walls, rounds, spot[1], spot[2])
    (begin, begin_came), (end, end_came) = ends
    rounds[begin] = with_near(rounds[begin], end, begin_came)
    rounds[end] = with_near(rounds[end], begin, end_came)
    walls.append((begin, end))
    return Plan(plan.sides, tuple(walls), tuple(rounds))


def with_place(walls, rounds, one, other):
    """The lists of the walls and of the rounds with one more place, within the tie of two places."""
    new = len(rounds)
    rings = list(rounds)
    rings[one] = tuple([new if near == other else near for near in rings[one]])
    rings[other] = tuple([new if near == one else near for near in rings[other]])
    rings.append((one, other))
    return [with_between(wall, one, other, new) for wall in walls], rings


def with_between(wall, one, other, new):
    """The wall with a new place between two others, if these are neighbours in it."""
    for at in range(1, len(wall)):
        if wall[at - 1:at + 1] in ((one, other), (other, one)):
            return wall[:at] + (new,) + wall[at:]
    return wall


def with_near(ring, near, came):
    """The ring with one more place near, in the corner of the room into which one comes from the place `came`."""
    # The rim goes on to the place ahead of `came`, so the room's corner is between these two.
    at = ring.index(came)
    return ring[:at] + (near,) + ring[at:]


def strike(plan, wall):
    """The plan without a wall that is none of the frame's."""
    if not is_inner(plan, wall):
        raise NoWall()
    walls, rounds = left_behind(plan.walls, dict(enumerate(plan.rounds)), wall)
    staying = sorted(rounds)
    names = {place: number for number, place in enumerate(staying)}
    left = [tuple([names[place] for place in row]) for row in walls]
    rings = [tuple([names[near] for near in rounds[place]]) for place in staying]
    return Plan(plan.sides, tuple(left), tuple(rings))


def is_inner(plan, thing):
    """Whether it is the number of a wall that is none of the frame's."""
    return is_integer(thing) and plan.sides <= thing < len(plan.walls)


def left_behind(walls, rounds, number):
    """The walls but this one, and a dict with the rounds of the places that stay; no place gets another number."""
    others = [wall for at, wall in enumerate(walls) if at != number]
    staying = staying_places(others)
    ahead = {}
    left = []
    for wall in others:
        stops = [at for at, place in enumerate(wall) if place in staying]
        for at, later in zip(stops, stops[1:]):
            ahead[wall[at], wall[at + 1]] = wall[later]
            ahead[wall[later], wall[later - 1]] = wall[at]
        left.append(tuple([wall[at] for at in stops]))
    rings = {place: tuple([ahead[place, near] for near in rounds[place] if (place, near) in ahead])
             for place in staying}
    return left, rings


def staying_places(walls):
    """A dict with the places of walls but those that lie on one of them and have just its two ties."""
    many = {}
    for wall in walls:
        for place in wall[:-1] + wall[1:]:
            many[place] = many.get(place, 0) + 1
    passed = [place for wall in walls for place in wall[1:-1]]
    return {place: True for place in many if many[place] > 2 or place not in passed}


def cut(plan, place):
    """The plan in which the wall on which a place lies is two walls that end there."""
    if not is_place(plan, place):
        raise NoPlace()
    if not can_be_cut(plan, place):
        raise NotCut()
    if len(plan.walls) == MOST_WALLS:
        raise Full()
    return with_cuts(plan, (place,))


def can_be_cut(plan, place):
    """Whether a place of the plan lies on a wall that is none of the frame's."""
    number = lies_on(plan, place)
    return number is not None and number >= plan.sides


def with_cuts(plan, places):
    """The plan with cuts at places that can be cut."""
    walls = [part for wall in plan.walls for part in parts_of(wall, places)]
    return Plan(plan.sides, tuple(walls), plan.rounds)


def parts_of(wall, places):
    """The list of the parts into which a wall comes by cuts at these of the places that lie on it."""
    stops = [at for at in range(len(wall)) if at in (0, len(wall) - 1) or wall[at] in places]
    return [wall[at:later + 1] for at, later in zip(stops, stops[1:])]


def join(plan, place, one, other):
    """The plan in which two walls that end at a star are one wall on which it lies."""
    if not is_place(plan, place):
        raise NoPlace()
    if not is_inner(plan, one) or not is_inner(plan, other):
        raise NoWall()
    if not is_star(plan, place) or not can_join(plan.walls[one], plan.walls[other], place):
        raise NotJoined()
    walls = [wall for number, wall in enumerate(plan.walls) if number not in (one, other)]
    walls.append(up_to(plan.walls[one], place) + up_to(plan.walls[other], place)[-2::-1])
    return Plan(plan.sides, tuple(walls), plan.rounds)


def can_join(wall, other, star):
    """Whether two walls both end at a star and have no other place in common."""
    # A star lies on no wall, so each wall in which it stands ends there.
    return [place for place in wall if place in other] == [star]


def up_to(wall, place):
    """The wall, in the direction in which it ends at this place."""
    return wall if wall[-1] == place else wall[::-1]
