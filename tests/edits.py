"""What the edits of plans must lead to, found otherwise than the package finds it; and edits by chance."""

from threeexits.editing import cut, join, put
from threeexits.errors import Full, NotCut, NotJoined, SameWall
from threeexits.places import rooms
from threeexits.plans import Plan


def pairs_round(rim):
    return list(zip(rim, rim[1:] + rim[:1]))


def rim_without(plan):
    """The rim that walks the frame from without."""
    rim = [place for wall in plan.walls[:plan.sides] for place in wall[:-1]]
    return tuple(rim[::-1])


def rounds_by(rims):
    """The rounds that lead to just these rims: behind a place at which a rim comes in stands that to which it goes."""
    behind = {}
    for rim in rims:
        for (came, here), (_, goes) in zip(pairs_round(rim), pairs_round(rim[1:] + rim[:1])):
            behind[here, goes] = came
    rounds = []
    for place in range(1 + max(place for place, _ in behind)):
        first = min(near for here, near in behind if here == place)
        ring = [first]
        while behind[place, ring[-1]] != first:
            ring.append(behind[place, ring[-1]])
        rounds.append(tuple(ring))
    return tuple(rounds)


def spots_of(rim):
    """The list of all spots of the room with this rim."""
    steps = pairs_round(rim)
    return ([("at", place) for place in rim if rim.count(place) == 1]
            + [("in", one, other) for one, other in steps if (other, one) not in steps])


def no_spots_of(rim, many):
    """What looks like spots of a plan with so many places and is none of this room."""
    steps = [("in", one, other) for one in range(many) for other in range(many)]
    return [spot for spot in [("at", place) for place in range(many)] + steps if spot not in spots_of(rim)]


def strokes_of(plan, spot):
    """The set of the numbers of the walls of which a spot is."""
    if spot[0] == "at":
        return {number for number, wall in enumerate(plan.walls) if spot[1] in wall}
    return {number for number, wall in enumerate(plan.walls)
            if spot[1:] in zip(wall, wall[1:]) or spot[:0:-1] in zip(wall, wall[1:])}


def between(row, one, other, new, backwards=True):
    """The row with a new place wherever one and the other stand side by side in it, in either order."""
    found = list(row[:1])
    for here, later in zip(row, row[1:]):
        if (here, later) == (one, other) or backwards and (later, here) == (one, other):
            found.append(new)
        found.append(later)
    return tuple(found)


def put_by_rims(plan, room, one, other):
    """The plan behind a put that can be done."""
    rims = list(rooms(plan)) + [rim_without(plan)]
    walls = list(plan.walls)
    ends = []
    many = len(plan.rounds)
    for spot in (one, other):
        if spot[0] == "at":
            ends.append(spot[1])
        else:
            walls = [between(wall, spot[1], spot[2], many) for wall in walls]
            rims = [between(rim + rim[:1], spot[1], spot[2], many)[:-1] for rim in rims]
            ends.append(many)
            many += 1
    rim = rims.pop(room)
    at = rim.index(ends[0])
    rim = rim[at:] + rim[:at]
    at = rim.index(ends[1])
    rims += [rim[:at + 1], rim[at:] + rim[:1]]
    return Plan(plan.sides, tuple(walls + [tuple(ends)]), rounds_by(rims))


def strike_by_rims(plan, number):
    """The plan without a wall, or the part that fails."""
    walls = [wall for at, wall in enumerate(plan.walls) if at != number]
    ties = [place for wall in walls for tie in zip(wall, wall[1:]) for place in tie]
    lying = [place for wall in walls for place in wall[1:-1]]
    left = sorted(place for place in {*ties} if ties.count(place) != 2 or place not in lying)
    rims = list(rooms(plan)) + [rim_without(plan)]
    for tie in zip(plan.walls[number], plan.walls[number][1:]):
        rims = merged(rims, *tie)
    walls = [tuple(left.index(place) for place in wall if place in left) for wall in walls]
    part = what_fails(plan.sides, walls)
    if part is not None:
        return part
    rims = [tuple(left.index(place) for place in rim if place in left) for rim in rims]
    return Plan(plan.sides, tuple(walls), rounds_by(rims))


def merged(rims, one, other):
    """The rims without a tie; those beside it become one."""
    left = next(rim for rim in rims if (one, other) in pairs_round(rim))
    right = next(rim for rim in rims if (other, one) in pairs_round(rim))
    if left == right:
        # A tie that leads to what hangs nowhere else: no plan will be left.
        return rims
    at = pairs_round(left).index((one, other)) + 1
    left_way = left[at:] + left[:at]
    at = pairs_round(right).index((other, one)) + 1
    right_way = right[at:] + right[:at]
    return [rim for rim in rims if rim not in (left, right)] + [left_way + right_way[1:-1]]


def what_fails(sides, walls):
    """The part that fails where a wall was struck, or None."""
    ties = [tuple(sorted(tie)) for wall in walls for tie in zip(wall, wall[1:])]
    many = [sum(place in tie for tie in ties) for place in range(1 + max(max(wall) for wall in walls))]
    reached, size = {0}, 0
    while len(reached) > size:
        size = len(reached)
        reached |= {place for tie in ties for place in tie if {*tie} & reached}
    if len({*ties}) < len(ties):
        return "ties"
    if min(many[sides:], default=3) < 3:
        return "stars"
    return None if size == len(many) else "flat"


def cut_by_hand(plan, places):
    """The plan behind cuts at places that can be cut."""
    walls = list(plan.walls)
    for place in places:
        number = [place in wall[1:-1] for wall in walls].index(True)
        wall = walls.pop(number)
        at = wall.index(place)
        walls += [wall[at:], wall[:at + 1]]
    return Plan(plan.sides, tuple(walls), plan.rounds)


def inner_places(plan):
    """The list of the places that can be cut."""
    return sorted(place for wall in plan.walls[plan.sides:] for place in wall[1:-1])


def stars_of(plan):
    lying = [place for wall in plan.walls for place in wall[1:-1]]
    return [place for place in range(plan.sides, len(plan.rounds)) if place not in lying]


def edited(chance, plan, many, words=("put", "put", "cut", "join")):
    """The plan behind so many edits of these kinds by chance, as far as they can be done."""
    for _ in range(many):
        word = chance.choice(words)
        try:
            if word == "put":
                room = chance.randrange(len(rooms(plan)))
                plan = put(plan, room, *chance.sample(spots_of(rooms(plan)[room]), 2))
            elif word == "cut":
                plan = cut(plan, chance.randrange(len(plan.rounds)))
            elif stars_of(plan):
                star = chance.choice(stars_of(plan))
                ending = [number for number, wall in enumerate(plan.walls) if star in wall]
                plan = join(plan, star, *chance.sample(ending, 2))
        except (SameWall, Full, NotCut, NotJoined):
            pass
    return plan
