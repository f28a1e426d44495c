"""Plans for the tests, spelled by sketches: points that tell how the ties lie about each place."""

from math import atan2

from threeexits.errors import BadPlan, NoPlace
from threeexits.plans import Plan


def sketch(sides, points, walls):
    """What Plan takes, and the points; the rounds are read off the points."""
    nears = {place: [] for place in range(len(points))}
    for wall in walls:
        for one, other in zip(wall, wall[1:]):
            nears[one].append(other)
            nears[other].append(one)
    rounds = []
    for place, (right, up) in enumerate(points):
        def angle(near):
            return atan2(points[near][1] - up, points[near][0] - right)
        rounds.append(tuple(sorted(nears[place], key=angle)))
    return (sides, tuple(walls), tuple(rounds)), points


def bare(sides):
    corners = [(corner, corner * corner) for corner in range(sides)]
    return sketch(sides, corners, [(corner, (corner + 1) % sides) for corner in range(sides)])


def fan(many, more_points=(), more_walls=()):
    """Strokes from corner 0 to places on the wall across from it."""
    points = [(0, 0), (many + 1, 0), (0, many + 1)]
    points += [(many + 1 - at, at) for at in range(1, many + 1)]
    across = (1, *range(3, many + 3), 2)
    strokes = [(0, place) for place in range(3, many + 3)]
    return sketch(3, points + list(more_points), [(0, 1), across, (2, 0)] + strokes + list(more_walls))


def crossed_fan(many):
    """A fan with a wall across one of its rooms: two more places, one more wall."""
    across = (1, *range(3, many + 3), 2)
    points = [(0, 0), (2 * many + 2, 0), (0, 2 * many + 2)]
    points += [(2 * many + 2 - 2 * at, 2 * at) for at in range(1, many + 1)]
    points += [(many, 1), (many - 1, 2)]
    low, high = many + 3, many + 4
    strokes = [(0, low, 3), (0, high, 4)] + [(0, place) for place in range(5, many + 3)]
    return sketch(3, points, [(0, 1), across, (2, 0)] + strokes + [(low, high)])


def wheel(many):
    """A star with strokes to all corners and to places on one wall."""
    far = 6 * (many + 1)
    points = [(0, 0), (far, 0), (0, far), (1, 1)]
    points += [(far - 6 * at, 6 * at) for at in range(1, many + 1)]
    across = (1, *range(4, many + 4), 2)
    strokes = [(0, 3), (1, 3), (2, 3)] + [(3, place) for place in range(4, many + 4)]
    return sketch(3, points, [(0, 1), across, (2, 0)] + strokes)


SQUARE = [(0, 0), (6, 0), (6, 6), (0, 6)]
TRIANGLE = [(0, 0), (12, 0), (0, 12)]
TRIANGLE_FRAME = [(0, 1), (1, 2), (2, 0)]

SPLIT = sketch(4, SQUARE + [(2, 0), (2, 6)], [(0, 4, 1), (1, 2), (2, 5, 3), (3, 0), (4, 5)])
TEE = sketch(4, SQUARE + [(2, 0), (2, 6), (2, 3), (6, 3)],
             [(0, 4, 1), (1, 7, 2), (2, 5, 3), (3, 0), (4, 6, 5), (6, 7)])
STAR = sketch(3, TRIANGLE + [(3, 3)], TRIANGLE_FRAME + [(0, 3), (1, 3), (2, 3)])
PINWHEEL = sketch(4, SQUARE + [(2, 2), (2, 4), (4, 4), (4, 2), (2, 0), (0, 4), (4, 6), (6, 2)],
                  [(0, 8, 1), (1, 11, 2), (2, 10, 3), (3, 9, 0), (8, 4, 5), (9, 5, 6), (10, 6, 7), (11, 7, 4)])
HANGING = sketch(3, TRIANGLE + [(2, 2), (5, 2), (2, 5), (3, 3)],
                 TRIANGLE_FRAME + [(0, 3), (3, 4), (4, 5), (5, 3), (3, 6), (4, 6), (5, 6)])
HANGING_STRAIGHT = sketch(3, TRIANGLE + [(2, 2), (5, 2), (2, 5), (3, 3)],
                          TRIANGLE_FRAME + [(0, 3, 6), (3, 4), (4, 5), (5, 3), (4, 6), (5, 6)])
HANGING_WITHIN = sketch(3, TRIANGLE + [(1, 8), (1, 9), (1.6, 8.5), (1.2, 8.5), (1, 7), (0, 6), (3, 9)],
                        [(0, 1), (1, 9, 2), (2, 8, 0), (3, 4), (4, 5), (5, 3), (3, 6), (4, 6), (5, 6),
                         (3, 7), (8, 7, 9)])
HANGING_BY_A_CUT = sketch(3, TRIANGLE + [(2, 2), (5, 2), (2, 5), (3, 3), (8, 0), (8, 4)],
                          [(0, 7, 1), (1, 8, 2), (2, 0), (7, 8),
                           (0, 3), (3, 4), (4, 5), (5, 3), (3, 6), (4, 6), (5, 6)])
TWO_HANGING = sketch(3, TRIANGLE + [(4, 1), (6, 1), (4, 3), (5, 1.5), (1, 4), (1, 6), (3, 4), (1.5, 5)],
                     TRIANGLE_FRAME + [(0, 3), (3, 4), (4, 5), (5, 3), (3, 6), (4, 6), (5, 6),
                                       (0, 7), (7, 8), (8, 9), (9, 7), (7, 10), (8, 10), (9, 10)])
OCTAGON = sketch(8, [(2, 0), (4, 0), (6, 2), (6, 4), (4, 6), (2, 6), (0, 4), (0, 2), (3, 3)],
                 [(corner, (corner + 1) % 8) for corner in range(8)] + [(0, 8, 4), (2, 8), (6, 8)])
PENTAGON = sketch(5, [(0, 0), (8, 0), (10, 6), (4, 10), (-2, 6), (3, 3), (6, 3), (4, 6), (4, 0)],
                  [(0, 8, 1), (1, 2), (2, 3), (3, 4), (4, 0),
                   (5, 6), (6, 7), (7, 5), (0, 5), (8, 6), (2, 6), (3, 7), (4, 5)])

# A triangle of walls with a star in it, tied to the corners; in the other one a wall comes in from corner 0.
RING = sketch(3, TRIANGLE + [(2, 2), (7, 2), (2, 7), (3.5, 3.5)],
              TRIANGLE_FRAME + [(0, 3), (1, 4), (2, 5), (3, 4), (4, 5), (5, 3), (3, 6), (4, 6), (5, 6)])
CROSSED_RING = sketch(3, RING[1], TRIANGLE_FRAME + [(0, 3, 6), (1, 4), (2, 5), (3, 4), (4, 5), (5, 3), (4, 6), (5, 6)])
# Two walls with the same two ends.
LENS = sketch(3, TRIANGLE + [(4, 0), (6, 6), (4, 5)], [(0, 3, 1), (1, 4, 2), (2, 0), (3, 5, 4), (3, 4), (2, 5)])
# Two stars between two places on the frame.
BIGON = sketch(3, TRIANGLE + [(4, 0), (6, 6), (4, 4), (6, 2)],
               [(0, 3, 1), (1, 4, 2), (2, 0), (3, 5), (3, 6), (5, 6), (5, 4), (6, 4)])
# A star between three sides of a square.
TEE_STAR = sketch(4, SQUARE + [(2, 3), (2, 0), (6, 3), (2, 6)],
                  [(0, 5, 1), (1, 6, 2), (2, 7, 3), (3, 0), (4, 5), (4, 6), (4, 7)])
# A room of five places, three of them stars with ties to corner 2.
BOWL = sketch(3, TRIANGLE + [(7, 3), (4, 4), (1, 2)],
              TRIANGLE_FRAME + [(1, 3), (3, 4), (4, 5), (5, 0), (2, 3), (2, 4), (2, 5)])
# Three walls that end at one star; two of them meet at a second place, too.
TWICE = sketch(3, TRIANGLE + [(3, 3), (6, 2), (2, 6), (5, 5)],
               TRIANGLE_FRAME + [(0, 3), (3, 4, 1), (3, 6, 4), (3, 5), (5, 2), (5, 6)])
# Two places beside each other on wall 6, kept there by one wall alone.
BULGE = sketch(4, SQUARE + [(2, 0), (2, 6), (2, 2), (2, 4), (4, 3), (6, 3)],
               [(0, 4, 1), (1, 9, 2), (2, 5, 3), (3, 0), (4, 6, 7, 5), (6, 8, 7), (1, 8), (2, 8), (8, 9)])

SKETCHES = {f"bare {sides}": bare(sides) for sides in range(3, 9)}
SKETCHES.update({
    "split": SPLIT, "tee": TEE, "star": STAR, "pinwheel": PINWHEEL, "hanging": HANGING,
    "hanging straight": HANGING_STRAIGHT, "hanging within": HANGING_WITHIN, "hanging by a cut": HANGING_BY_A_CUT,
    "ring": RING, "crossed ring": CROSSED_RING, "lens": LENS, "bigon": BIGON, "tee star": TEE_STAR, "bowl": BOWL,
    "two hanging": TWO_HANGING, "twice": TWICE, "bulge": BULGE, "octagon": OCTAGON, "pentagon": PENTAGON,
    "fan": fan(5), "crossed fan": crossed_fan(4), "wheel": wheel(3), "full fan": fan(37),
    "full crossed fan": crossed_fan(35), "full wheel": wheel(34)})


# Full plans some of whose lots are narrow.
HANGING_IN_A_FAN = fan(30, [(20, 0.2), (25, 0.2), (25, 0.5), (24, 0.3)],
                       [(0, 33), (33, 34), (34, 35), (35, 33), (33, 36), (34, 36), (35, 36)])


def plan_of(sketched):
    return Plan(*sketched[0])


def all_plans():
    """Pairs of a name and a plan."""
    return [(name, plan_of(sketched)) for name, sketched in SKETCHES.items()]


def turned(ring, by):
    by = by % len(ring)
    return ring[by:] + ring[:by]


def deep(kind, depth=30):
    """Nested so deep, of tuples, lists or dicts."""
    thing = 0
    for _ in range(depth):
        thing = {tuple: lambda: (thing,), list: lambda: [thing], dict: lambda: {0: thing}}[kind]()
    return thing


def junk():
    """Values of all kinds, none of them an integer from 0 to 99, nor a tuple of tuples of integers."""
    return [True, False, None, -1, -10 ** 29, 10 ** 29, 100, "", "0", "3", "\n", "a" * 20000,
            [], [0], [0, 1, 2], [(0, 1), (1, 2), (2, 0)], {}, {0: 1}, {(0, 1): [2]},
            (None,), (0, 1, "2"), ("0", "1", "2"), (0, 1, True), (0, 1, [2]), ((),), (0,), (-1, -2),
            tuple(range(99998)), list(range(99998)), deep(tuple), deep(list), deep(dict),
            plan_of(STAR), (plan_of(STAR),), BadPlan("sides"), NoPlace()]
