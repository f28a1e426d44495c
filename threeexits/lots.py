"""Lots: walls that hang together with all that lies within them, and which lots have too few exits."""

from itertools import combinations

from threeexits.errors import NoLot, NoWalls, TooMany
from threeexits.places import rooms
from threeexits.ways import ENOUGH, with_few_exits
from threeexits.webs import is_ascending, meeting, reached_from, rim_from, step_without, steps_of

MOST_TRIED = 14
WITHOUT = 0


def is_lot(plan, thing):
    """Whether it is a lot of the plan."""
    return hang_together(plan, thing) and not walls_within(rims_beside(plan), thing)


def closed(plan, walls):
    """The least lot that has these walls."""
    if not hang_together(plan, walls):
        raise NoWalls()
    return with_all_within(plan, walls)


def exits(plan, lot):
    """The ascending tuple of the exits of a lot."""
    if not is_lot(plan, lot):
        raise NoLot()
    return exits_of(plan, lot)


def can_build(plan):
    """Whether no lot of the plan is narrow."""
    return with_few_exits(plan) is None


def narrow(plan):
    """A narrow lot, or None."""
    walls = with_few_exits(plan)
    if walls is None:
        return None
    # What lies within walls adds no exits: a wall that leads out from within
    # leaves them at an exit, which is none any more, and has one end there.
    return with_all_within(plan, walls)


def is_narrow(plan, thing):
    """Whether it is a narrow lot of the plan."""
    return is_lot(plan, thing) and has_few_exits(plan, thing)


def all_lots(plan):
    """The ascending list of all lots."""
    many = len(plan.walls)
    if many > MOST_TRIED:
        raise TooMany(MOST_TRIED)
    meets = meeting(plan.walls)
    beside = rims_beside(plan)
    found = [walls for size in range(1, many + 1) for walls in combinations(range(many), size)
             if are_linked(meets, walls) and not walls_within(beside, walls)]
    return sorted(found)


def all_narrow(plan):
    """The ascending list of all narrow lots."""
    return [lot for lot in all_lots(plan) if has_few_exits(plan, lot)]


def hang_together(plan, thing):
    """Whether it is an ascending tuple of one number or more of walls that hang together."""
    if not is_ascending(thing) or thing == () or thing[0] < 0 or thing[-1] >= len(plan.walls):
        return False
    return are_linked(meeting(plan.walls), thing)


def are_linked(meets, walls):
    """Whether one comes from the first of the walls to each other one by walls of theirs."""
    nears = {number: [near for near in meets[number] if near in walls] for number in walls}
    return len(reached_from(nears, walls[0])) == len(walls)


def with_all_within(plan, walls):
    """The ascending tuple of the walls and of those within, and within these, until no more are."""
    beside = rims_beside(plan)
    lot = walls
    more = walls_within(beside, lot)
    while more:
        lot = tuple(sorted(list(lot) + more))
        more = walls_within(beside, lot)
    return lot


def rims_beside(plan):
    """For each wall the list of the pairs of rims, told by numbers, on the two sides of its ties."""
    rims = [rim_from(plan.rounds, step_without(plan.walls))] + list(rooms(plan))
    beside = {step: number for number, rim in enumerate(rims) for step in steps_of(rim)}
    return [[(beside[one, other], beside[other, one]) for one, other in zip(wall, wall[1:])] for wall in plan.walls]


def walls_within(beside, walls):
    """The list of the other walls that have a tie with rims on both sides that the walls shut off."""
    nears = {WITHOUT: []}
    for number, pairs in enumerate(beside):
        if number not in walls:
            for left, right in pairs:
                nears.setdefault(left, []).append(right)
                nears.setdefault(right, []).append(left)
    reached = reached_from(nears, WITHOUT)
    # One comes across a tie of another wall, so both of its sides are shut off or none.
    return [number for number, pairs in enumerate(beside)
            if number not in walls and not all([left in reached for left, _ in pairs])]


def has_few_exits(plan, lot):
    """Whether a lot, if it has two walls or more, is narrow."""
    return len(lot) > 1 and len(exits_of(plan, lot)) < ENOUGH


def exits_of(plan, walls):
    """The ascending tuple of the exits of walls that may be no lot."""
    passed = [place for number in walls for place in plan.walls[number][1:-1]]
    elsewhere = [place for number, wall in enumerate(plan.walls) if number not in walls for place in wall]
    places = sorted({place for number in walls for place in plan.walls[number]})
    return tuple([place for place in places
                  if place not in passed and (place < plan.sides or place in elsewhere)])
