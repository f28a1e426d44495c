"""Plans by chance for the tests: drawings that were grown, and webs that may have narrow lots."""

from fractions import Fraction

from sketches import sketch
from threeexits.errors import BadPlan
from threeexits.plans import Plan


def pair(number):
    """A fraction as the package takes it."""
    number = Fraction(number)
    return number.numerator, number.denominator


def point(right, up):
    return pair(right), pair(up)


def numbers(points):
    """Points of the package as pairs of Fractions."""
    return [(Fraction(*right), Fraction(*up)) for right, up in points]


def weights_by_chance(chance, plan, most):
    """Weights with bottoms up to some number, by chance."""
    lying = {place for wall in plan.walls for place in wall[1:-1]}
    weights = [None] * plan.sides
    for place in range(plan.sides, len(plan.rounds)):
        many = 2 if place in lying else len(plan.rounds[place])
        cuts = {0, most}
        while len(cuts) <= many:
            cuts.add(chance.randint(1, most - 1))
        cuts = sorted(cuts)
        shares = tuple(pair(Fraction(later - earlier, most)) for earlier, later in zip(cuts, cuts[1:]))
        weights.append(shares[0] if place in lying else shares)
    return tuple(weights)


def cross(one, here, other):
    return (here[0] - one[0]) * (other[1] - here[1]) - (here[1] - one[1]) * (other[0] - here[0])


def convex(chance, sides):
    """Corners of a convex polygon, by chance."""
    while True:
        spots = sorted(chance.sample(range(-30, 31), sides))
        corners = [(Fraction(spot), Fraction(spot * spot, 10)) for spot in spots]
        wide, tall, slant = (Fraction(chance.randint(1, 9), chance.randint(1, 9)) for _ in range(3))
        corners = [(right * wide + up * slant, up * tall) for right, up in corners]
        if all(cross(corners[at - 2], corners[at - 1], corners[at]) > 0 for at in range(sides)):
            return corners


class Growing:
    """A drawing that grows by walls put across its rooms."""

    def __init__(self, chance, sides):
        self.chance = chance
        self.sides = sides
        self.points = convex(chance, sides)
        self.walls = [[corner, (corner + 1) % sides] for corner in range(sides)]
        self.rooms = [list(range(sides))]

    def walls_of(self, spot):
        return {number for number, wall in enumerate(self.walls) if spot[-1] in wall and spot[0] in wall}

    def spots(self, rim):
        return [(place,) for place in rim] + 2 * list(zip(rim, rim[1:] + rim[:1]))

    def placed(self, spot):
        """The place at a spot, made where none is."""
        if len(spot) == 1:
            return spot[0]
        one, other = spot
        part = Fraction(self.chance.randint(1, 6), 7)
        (right, up), (far_right, far_up) = self.points[one], self.points[other]
        self.points.append((right + part * (far_right - right), up + part * (far_up - up)))
        place = len(self.points) - 1
        for row in self.walls:
            for near, next_near in ((one, other), (other, one)):
                if (near, next_near) in zip(row, row[1:]):
                    row.insert(row.index(next_near), place)
        for rim in self.rooms:
            for near, next_near in ((one, other), (other, one)):
                if (near, next_near) in zip(rim, rim[1:] + rim[:1]):
                    rim.insert(rim.index(near) + 1, place)
        return place

    def put(self, most):
        rim = self.chance.choice(self.rooms)
        one, other = self.chance.sample(self.spots(rim), 2)
        if self.walls_of(one) & self.walls_of(other) or len(self.points) + len(one) + len(other) - 2 > most:
            return
        low, high = self.placed(one), self.placed(other)
        self.walls.append([low, high])
        self.rooms.remove(rim)
        rim = rim[rim.index(low):] + rim[:rim.index(low)]
        at = rim.index(high)
        self.rooms += [rim[:at + 1], rim[at:] + rim[:1]]

    def sketched(self):
        return sketch(self.sides, self.points, [tuple(wall) for wall in self.walls])


def grown(chance, sides, walls, places=40):
    """A plan that was grown, and its drawing; it has so many walls, or fewer where there is no place left."""
    growing = Growing(chance, sides)
    for _ in range(9 * walls):
        if len(growing.walls) < walls:
            growing.put(places)
    spelled, points = growing.sketched()
    return Plan(*spelled), tuple(point(*spot) for spot in points)


def crosses(one, other):
    """Whether two lines between points meet, but at an end of both alone."""
    if one == other:
        return True
    common = {*one} & {*other}
    (a, b), (c, d) = one, other
    if common:
        middle = common.pop()
        far = [end for end in one + other if end != middle]
        return cross(far[0], middle, far[1]) == 0
    return (cross(a, b, c) * cross(a, b, d) <= 0 and cross(c, d, a) * cross(c, d, b) <= 0)


def spread_points(chance, sides, inner):
    """The corners of a frame, and points in it of which no three are on one line with each other or with corners."""
    corners = {3: [(0, 0), (60, 0), (0, 60)], 4: [(0, 0), (60, 1), (60, 60), (1, 60)],
               5: [(20, 0), (40, 1), (60, 30), (30, 60), (0, 30)]}[sides]
    points = list(corners)
    while len(points) < sides + inner:
        new = (chance.randint(1, 59), chance.randint(1, 59))
        if (all(cross(corners[at - 1], corners[at], new) > 0 for at in range(sides))
                and all(cross(one, other, new) for one in points for other in points if one != other)):
            points.append(new)
    return points


def web(chance, sides, inner, edge, kept):
    """What Plan takes, and the points, for a web of ties within a frame; most inner places may lie on walls."""
    points = spread_points(chance, sides, inner)
    frame = [[corner, (corner + 1) % sides] for corner in range(sides)]
    for _ in range(edge):
        at = chance.randrange(sides)
        one, other = frame[at][-2:]
        (right, up), (far_right, far_up) = points[one], points[other]
        points.append((Fraction(2 * right + far_right, 3), Fraction(2 * up + far_up, 3)))
        frame[at].insert(-1, len(points) - 1)
    fixed = [tie for wall in frame for tie in zip(wall, wall[1:])]
    drawn = [(points[one], points[other]) for one, other in fixed]
    more = [(one, other) for other in range(len(points)) for one in range(other)]
    chance.shuffle(more)
    ties = []
    for one, other in more:
        line = (points[one], points[other])
        if not any(crosses(line, old) for old in drawn) and not any({one, other} <= {*wall} for wall in frame):
            drawn.append(line)
            ties.append((one, other))
    ties = [tie for tie in ties if chance.random() < kept]
    walls = joined(chance, [list(tie) for tie in ties], range(sides, sides + inner))
    return sketch(sides, points, [tuple(wall) for wall in frame + walls])


def joined(chance, walls, places):
    """The walls, two of them that end at a place joined to one, for most places."""
    for place in places:
        ending = [wall for wall in walls if place in (wall[0], wall[-1])]
        if len(ending) > 2 and chance.random() < 0.9:
            one, other = chance.sample(ending, 2)
            if set(one) & set(other) == {place}:
                walls = [wall for wall in walls if wall not in (one, other)]
                one = one if one[-1] == place else one[::-1]
                other = other if other[0] == place else other[::-1]
                walls.append(one + other[1:])
    return walls


def web_plan(chance, most_walls=14, inner=range(7)):
    """A plan of a web, by chance."""
    return web_with_points(chance, most_walls, inner)[0]


def web_with_points(chance, most_walls=14, inner=range(7)):
    """A plan of a web, by chance, and the points of its places."""
    while True:
        sides = chance.choice((3, 3, 4, 5))
        spelled, points = web(chance, sides, chance.choice(inner), chance.randint(0, 3), chance.choice((0.7, 0.85, 1)))
        if len(spelled[1]) <= most_walls:
            try:
                return Plan(*spelled), points
            except BadPlan:
                pass


def altered(chance, plan, cuts, joins):
    """The plan with walls cut at so many places by chance, and joined at so many stars, where there are any."""
    walls = [list(wall) for wall in plan.walls]
    for _ in range(cuts):
        places = [place for wall in walls[plan.sides:] for place in wall[1:-1]]
        if places:
            place = chance.choice(places)
            at = [place in wall[1:-1] for wall in walls].index(True)
            middle = walls[at].index(place)
            walls += [walls[at][:middle + 1], walls.pop(at)[middle:]]
    lying = {place for wall in walls for place in wall[1:-1]}
    stars = [place for place in range(plan.sides, len(plan.rounds)) if place not in lying]
    joining = chance.sample(stars, min(joins, len(stars)))
    inner = joined(chance, walls[plan.sides:], joining)
    return Plan(plan.sides, tuple(tuple(wall) for wall in walls[:plan.sides] + inner), plan.rounds)
