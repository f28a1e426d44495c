"""Plans: how the strokes of a drawing touch, and no measure."""

from threeexits.errors import BadPlan
from threeexits.webs import all_rims, all_together, begun_at, is_integer, is_row
from threeexits.webs import nears_along, rim_from, step_without, steps_of, ties_along

FEWEST_SIDES = 3
MOST_SIDES = 8
MOST_WALLS = 40
MOST_PLACES = 40


class Plan:
    """A plan; equal plans have equal sides, walls and rounds, however they were spelled."""

    def __init__(self, sides, walls, rounds):
        part = failing_part(sides, walls, rounds)
        if part is not None:
            raise BadPlan(part)
        self.sides = sides
        self.walls = walls[:sides] + walls_in_order(walls[sides:])
        self.rounds = tuple([begun_at(ring, min(ring)) for ring in rounds])

    def __eq__(self, other):
        return (isinstance(other, Plan) and self.sides == other.sides
                and self.walls == other.walls and self.rounds == other.rounds)


def walls_in_order(walls):
    """The walls, each begun at the lesser one of its ends, ascending."""
    return tuple(sorted([wall if wall[0] < wall[-1] else wall[::-1] for wall in walls]))


def failing_part(sides, walls, rounds):
    """The first part that keeps this from being a plan, or None."""
    # Each check relies on what those ahead of it have found to hold.
    if not are_sides(sides):
        return "sides"
    if not walls_fit(sides, walls):
        return "walls"
    if not frame_goes_round(sides, walls):
        return "frame"
    ties = ties_along(walls)
    if len(set(ties)) != len(ties):
        return "ties"
    if not lie_once(sides, walls):
        return "lies"
    nears = nears_along(1 + max([max(wall) for wall in walls]), walls)
    if not all([len(near) >= 3 for near in nears[sides:]]):
        return "stars"
    if not are_rounds(nears, rounds):
        return "rounds"
    if not all_together(nears) or len(rounds) + len(all_rims(rounds)) != len(ties) + 2:
        return "flat"
    if not frame_is_rim(sides, walls, rounds):
        return "rim"
    return None


def are_sides(thing):
    """Whether a plan can have so many sides."""
    return is_integer(thing) and FEWEST_SIDES <= thing <= MOST_SIDES


def walls_fit(sides, walls):
    """Whether it is a tuple of enough and not too many walls over places without a gap."""
    if not isinstance(walls, tuple) or not sides <= len(walls) <= MOST_WALLS:
        return False
    if not all([is_row(wall) and len(wall) >= 2 and len(set(wall)) == len(wall) for wall in walls]):
        return False
    places = sorted({place for wall in walls for place in wall})
    return sides <= len(places) <= MOST_PLACES and places == list(range(len(places)))


def frame_goes_round(sides, walls):
    """Whether each of the frame's walls goes from its corner to the next one."""
    ends = [(wall[0], wall[-1]) for wall in walls[:sides]]
    return ends == [(corner, (corner + 1) % sides) for corner in range(sides)]


def lie_once(sides, walls):
    """Whether no place lies on two walls and no corner on one."""
    inner = [place for wall in walls for place in wall[1:-1]]
    return len(set(inner)) == len(inner) and all([place >= sides for place in inner])


def are_rounds(nears, rounds):
    """Whether it is a tuple with a round for each place, begun anywhere."""
    if not isinstance(rounds, tuple) or len(rounds) != len(nears):
        return False
    return all([is_row(ring) and sorted(ring) == sorted(near) for ring, near in zip(rounds, nears)])


def frame_is_rim(sides, walls, rounds):
    """Whether the frame, walked backwards, is a rim."""
    rim = rim_from(rounds, step_without(walls))
    backwards = [(later, earlier) for wall in walls[:sides] for earlier, later in zip(wall, wall[1:])]
    return sorted(steps_of(rim)) == sorted(backwards)
