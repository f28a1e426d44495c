"""Growing: plans that are grown by putting one wall behind another, and how a plan can be grown."""

from threeexits.editing import AT, IN, left_behind, put
from threeexits.errors import Full, NoGrowth, NoRoom, NoSides, NoSpot, SameWall
from threeexits.places import alikes, is_star, many_places, rooms
from threeexits.plans import Plan, are_sides
from threeexits.webs import begun_at, steps_of


def bare(sides):
    """The plan with the frame's walls alone."""
    if not are_sides(sides):
        raise NoSides()
    corners = range(sides)
    return Plan(sides, tuple([(corner, (corner + 1) % sides) for corner in corners]),
                tuple([((corner + 1) % sides, (corner - 1) % sides) for corner in corners]))


def grown(sides, thing):
    """The plan behind a growth, begun at the bare plan."""
    plan = bare(sides)
    if not isinstance(thing, tuple):
        raise NoGrowth(-1)
    for index, triple in enumerate(thing):
        plan = with_triple(plan, triple)
        if plan is None:
            raise NoGrowth(index)
    return plan


def with_triple(plan, thing):
    """The plan with a wall put as a triple tells, or None if it can't be put."""
    if not isinstance(thing, tuple) or len(thing) != 3:
        return None
    room, one, other = thing
    try:
        return put(plan, room, one, other)
    except (NoRoom, NoSpot, SameWall, Full):
        return None


def is_growth(plan, thing):
    """Whether it is a growth of the plan."""
    try:
        found = grown(plan.sides, thing)
    except NoGrowth:
        return False
    return alikes(found, plan) != ()


def growth(plan):
    """A growth of the plan, or None if there is none."""
    if not may_be_grown(plan):
        return None
    ends = taken_down(plan)
    return None if ends is None else put_again(plan.sides, ends)


def may_be_grown(plan):
    """Whether the plan has no star, and no wall whose two ends stand together in another one."""
    if any([is_star(plan, place) for place in range(many_places(plan))]):
        return False
    ends = [(number, wall[0], wall[-1]) for number, wall in enumerate(plan.walls)]
    return not any([one in wall and other in wall and number != at
                    for number, one, other in ends for at, wall in enumerate(plan.walls)])


def taken_down(plan):
    """The list of the two ends of each wall, the one that can be put last first, or None if none of some can."""
    walls = list(plan.walls)
    rounds = dict(enumerate(plan.rounds))
    taken = []
    while len(walls) > plan.sides:
        # Where a place lies on a wall another one ends, which must be put behind it.
        free = [number for number in range(plan.sides, len(walls)) if len(walls[number]) == 2]
        if not free:
            return None
        one, other = walls[free[0]]
        taken.append((end_of(rounds, one, other), end_of(rounds, other, one)))
        walls, rounds = left_behind(walls, rounds, free[0])
    return taken


def end_of(rounds, place, other):
    """One end of a tie: the place, and its neighbours behind and ahead of the other end in its round."""
    ring = begun_at(rounds[place], other)
    return place, ring[1], ring[-1]


def put_again(sides, taken):
    """The growth that puts the walls that were taken down, the last one first."""
    plan = bare(sides)
    names = {corner: corner for corner in range(sides)}
    triples = []
    for ends in reversed(taken):
        spots = [spot_of(names, end) for end in ends]
        triple = (room_of(plan, names, ends[0]), spots[0], spots[1])
        triples.append(triple)
        for end in ends:
            names.setdefault(end[0], len(names))
        plan = with_triple(plan, triple)
    return tuple(triples)


def spot_of(names, end):
    """The spot at which a wall ends, by the names that the places have so far."""
    place, came, goes = end
    return (AT, names[place]) if place in names else (IN, names[came], names[goes])


def room_of(plan, names, end):
    """The number of the room across which a wall with this end is put."""
    place, came, goes = end
    step = (names[came], names[place if place in names else goes])
    return [number for number, rim in enumerate(rooms(plan)) if step in steps_of(rim)][0]
