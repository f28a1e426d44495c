"""The places of a plan: its ties, rooms and walls, and the names that places may have."""

from threeexits.errors import NoNames, NoPlace
from threeexits.plans import Plan
from threeexits.webs import all_rims, begun_at, is_integer, is_row, least_turned
from threeexits.webs import step_without, steps_of, ties_along


def many_places(plan):
    """How many places the plan has."""
    return len(plan.rounds)


def ties(plan):
    """The ascending tuple of all ties, the lesser place of each first."""
    return tuple(sorted(ties_along(plan.walls)))


def rooms(plan):
    """The ascending tuple of the rims of all rooms, each begun so that it is least."""
    without = step_without(plan.walls)
    rims = [rim for rim in all_rims(plan.rounds) if without not in steps_of(rim)]
    return tuple(sorted([least_turned(rim) for rim in rims]))


def lies_on(plan, place):
    """The number of the wall on which a place lies, or None."""
    if not is_place(plan, place):
        raise NoPlace()
    for number, wall in enumerate(plan.walls):
        if place in wall[1:-1]:
            return number
    return None


def walls_at(plan, place):
    """The ascending tuple of the numbers of all walls in which a place stands."""
    if not is_place(plan, place):
        raise NoPlace()
    return tuple([number for number, wall in enumerate(plan.walls) if place in wall])


def is_place(plan, thing):
    """Whether it is the number of a place of the plan."""
    return is_integer(thing) and 0 <= thing < many_places(plan)


def is_star(plan, place):
    """Whether a place is no corner and lies on no wall."""
    return place >= plan.sides and lies_on(plan, place) is None


def walls_by_step(plan):
    """A dict: for each step along a tie the number of the wall that is walked."""
    found = {}
    for number, along in enumerate(plan.walls):
        for one, other in zip(along, along[1:]):
            found[one, other] = number
            found[other, one] = number
    return found


def mirrored(plan):
    """The plan as a mirror shows it; corner 0 and the places that are no corners keep their names."""
    sides = plan.sides
    corners = [(sides - corner) % sides for corner in range(sides)]
    names = tuple(corners + list(range(sides, many_places(plan))))
    turned = [wall[::-1] for wall in plan.walls]
    return with_names(sides, turned, [ring[::-1] for ring in plan.rounds], names)


def renamed(plan, names):
    """The plan in which place p is called names[p]."""
    if not are_names(plan, names):
        raise NoNames()
    return with_names(plan.sides, plan.walls, plan.rounds, names)


def with_names(sides, walls, rounds, names):
    """The plan of these walls and rounds, in which place p gets the name names[p]."""
    moved = [tuple([names[place] for place in wall]) for wall in walls]
    # Each of the frame's walls begins at the corner whose number it has.
    ordered = sorted(moved[:sides]) + moved[sides:]
    rings = [()] * len(rounds)
    for place, ring in enumerate(rounds):
        rings[names[place]] = tuple([names[near] for near in ring])
    return Plan(sides, tuple(ordered), tuple(rings))


def are_names(plan, thing):
    """Whether the places can be renamed so."""
    many = many_places(plan)
    if not is_row(thing) or sorted(thing) != list(range(many)):
        return False
    return thing[:plan.sides] == tuple([(thing[0] + corner) % plan.sides for corner in range(plan.sides)])


def alikes(plan, other):
    """The ascending tuple of all names by which the one plan becomes the other."""
    if plan.sides != other.sides:
        return ()
    found = [names_from(plan, other, corner) for corner in range(plan.sides)]
    return tuple(sorted([names for names in found if leads_to(plan, names, other)]))


def leads_to(plan, thing, other):
    """Whether these are names by which the one plan becomes the other."""
    return are_names(plan, thing) and renamed(plan, thing) == other


def names_from(plan, other, corner):
    """The only tuple by which the plan could become the other one, corner 0 becoming this corner, or None."""
    # Where a place and one tie of it come to lie, all its other ties do, in the
    # order of its round; so the names spread from the first tie of the frame.
    names = {0: corner}
    todo = [(0, plan.walls[0][1], corner, other.walls[corner][1])]
    while todo:
        place, came, twin, twin_came = todo.pop()
        ring = begun_at(plan.rounds[place], came)
        twin_ring = begun_at(other.rounds[twin], twin_came)
        if len(ring) != len(twin_ring):
            return None
        for near, twin_near in zip(ring, twin_ring):
            if near not in names:
                names[near] = twin_near
                todo.append((near, place, twin_near, twin))
    return tuple([names[place] for place in range(many_places(plan))])
