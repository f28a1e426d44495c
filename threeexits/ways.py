"""Ways out: walls with too few exits are found as those from which too few ways lead to corners.

A way goes from a wall to a place in it that doesn't lie on it; from a corner it is
out, from a place that lies on a wall it goes on to that wall, from a star to any
wall at it. Each place lets one way through. So some walls have as many exits as
there are places at which ways leave them; and by the theorem of flows and cuts, as
many ways lead from some walls to corners as the fewest exits are that any walls
have to which these belong.
"""

from threeexits.places import is_star
from threeexits.webs import meeting, reached_from

# Walls are told by their numbers, the way in and the way out of a place by pairs.
OUT = "out"
ENOUGH = 3


def with_few_exits(plan):
    """The ascending tuple of two or more walls that hang together and have fewer than three exits, or None."""
    meets = meeting(plan.walls)
    arcs = arcs_of(plan)
    for first, others in enumerate(meets):
        left = {node: {near: many for near, many in nears.items()} for node, nears in arcs.items()}
        # One wall alone has two exits, so one way more must begin at a second wall.
        for _ in range(ENOUGH - 1):
            add_way(left, first)
        for other in others:
            came = searched(left, [first, other])
            if OUT not in came:
                chosen = [number for number in range(len(meets)) if number in came]
                return hanging_at(meets, chosen, first)
    return None


def hanging_at(meets, chosen, first):
    """The ascending tuple of those of the chosen walls that hang together with the first one."""
    nears = {number: [near for near in meets[number] if near in chosen] for number in chosen}
    return tuple(sorted(reached_from(nears, first)))


def arcs_of(plan):
    """For each node a dict: to which other ones so many ways may go."""
    arcs = {OUT: {}}
    for number in range(len(plan.walls)):
        arcs[number] = {}
    for place in range(len(plan.rounds)):
        arcs["in", place] = {}
        arcs["out", place] = {}
        add_arc(arcs, ("in", place), ("out", place), 1)
        if place < plan.sides:
            add_arc(arcs, ("out", place), OUT, 1)
    for number, wall in enumerate(plan.walls):
        for place in wall[1:-1]:
            add_arc(arcs, ("out", place), number, 1)
        for place in (wall[0], wall[-1]):
            add_arc(arcs, number, ("in", place), 1)
            if is_star(plan, place):
                add_arc(arcs, ("out", place), number, 1)
    return arcs


def add_arc(arcs, node, near, many):
    """Lets so many ways go from a node to one near it; the way back is open for ways that are undone."""
    arcs[node][near] = many
    arcs[near].setdefault(node, 0)


def searched(left, begin):
    """A dict: for each node to which a way can be led, the one from which it comes there."""
    came = {node: None for node in begin}
    todo = list(begin)
    while todo:
        node = todo.pop()
        for near, many in left[node].items():
            if many > 0 and near not in came:
                came[near] = node
                todo.append(near)
    return came


def add_way(left, first):
    """Leads one more way from a wall out, if there is one."""
    came = searched(left, [first])
    if OUT not in came:
        return
    node = OUT
    while node != first:
        ahead = came[node]
        left[ahead][node] -= 1
        left[node][ahead] += 1
        node = ahead
