"""What plans are made of, below the plans: rows of integers, ties, walls that meet, rounds and rims.

A round is called a ring here, a tie that is walked one way a step (from, to).
"""


def is_integer(thing):
    """Whether it is an integer; a flag is none."""
    return isinstance(thing, int) and not isinstance(thing, bool)


def is_row(thing):
    """Whether it is a tuple of integers."""
    return isinstance(thing, tuple) and all([is_integer(item) for item in thing])


def is_ascending(thing):
    """Whether it is a tuple of integers, each greater than the one ahead of it."""
    return is_row(thing) and all([earlier < later for earlier, later in zip(thing, thing[1:])])


def ties_along(walls):
    """The ties of the walls as pairs, the lesser place first, in the order of the walls."""
    return [(min(pair), max(pair)) for wall in walls for pair in zip(wall, wall[1:])]


def nears_along(many, walls):
    """For each of so many places the list of the places to which its ties lead."""
    nears = [[] for _ in range(many)]
    for low, high in ties_along(walls):
        nears[low].append(high)
        nears[high].append(low)
    return nears


def reached_from(nears, first):
    """A dict with the first item and all others to which one comes from it, from each to those near it."""
    reached = {first: True}
    todo = [first]
    while todo:
        item = todo.pop()
        for near in nears[item]:
            if near not in reached:
                reached[near] = True
                todo.append(near)
    return reached


def all_together(nears):
    """Whether ties lead from the first place to each other one."""
    return len(reached_from(nears, 0)) == len(nears)


def meeting(walls):
    """For each wall the list of the numbers of the other ones that have a place in common with it."""
    return [[number for number, other in enumerate(walls) if number != own and not are_apart(wall, other)]
            for own, wall in enumerate(walls)]


def are_apart(wall, other):
    """Whether two walls have no place in common."""
    return not any([place in other for place in wall])


def begun_at(ring, place):
    """The ring turned so that it begins at this place of it."""
    at = ring.index(place)
    return ring[at:] + ring[:at]


def least_turned(rim):
    """The least of all tuples that are this one begun elsewhere."""
    return min([rim[at:] + rim[:at] for at in range(len(rim))])


def steps_of(rim):
    """The steps that are walked along a rim that comes to these places."""
    return list(zip(rim, rim[1:] + rim[:1]))


def step_behind(rounds, step):
    """The step with which a rim goes on behind a step."""
    came, here = step
    ring = rounds[here]
    # Index -1 is the last place, as it should be where the first one is left.
    return here, ring[ring.index(came) - 1]


def rim_from(rounds, first):
    """The tuple of the places of the rim that begins with this step, as it is walked."""
    rim = [first[0]]
    step = step_behind(rounds, first)
    while step != first:
        rim.append(step[0])
        step = step_behind(rounds, step)
    return tuple(rim)


def all_rims(rounds):
    """The list of all rims, each begun anywhere."""
    walked = set()
    rims = []
    for here, ring in enumerate(rounds):
        for ahead in ring:
            if (here, ahead) not in walked:
                rim = rim_from(rounds, (here, ahead))
                rims.append(rim)
                for step in steps_of(rim):
                    walked.add(step)
    return rims


def step_without(walls):
    """The step by which the rim that walks the frame from without leaves corner 1 for corner 0."""
    return walls[0][-1], walls[0][-2]
