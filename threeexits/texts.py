"""Texts of plans and drawings."""

from threeexits.errors import BadText, NoDrawing
from threeexits.plans import Plan
from threeexits.points import are_points, is_fraction
from threeexits.words import BLANK, FEED, is_number, line_of, lines_of

SIDES = "sides"
STROKE = "wall"
ROUND = "round"
MOST_DIGITS = 4
MOST_DRAWN_DIGITS = 4000
# Which lines may stand behind a line of this kind, and the fewest numbers in a line.
FOLLOWING = {"": ("sides",), "sides": ("wall",), "wall": ("wall", "round"), "round": ("round",)}
FEWEST = {"sides": 1, "wall": 2, "round": 1}


def plan_text(plan):
    """The text of a plan."""
    rows = [(SIDES, plan.sides)] + [(STROKE,) + wall for wall in plan.walls] + [(ROUND,) + ring for ring in plan.rounds]
    return "".join([line_of(row) + FEED for row in rows])


def read_plan(text):
    """The plan of a text."""
    lines, rest = lines_of(text)
    rows = {word: [] for word in FEWEST}
    last = ""
    for number, line in enumerate(lines, start=1):
        words = line.split(BLANK)
        if words[0] not in FOLLOWING[last] or not are_numbers(words[0], words[1:]):
            raise BadText(number)
        last = words[0]
        rows[last].append(tuple([int(word) for word in words[1:]]))
    if rest != "" or last != ROUND:
        raise BadText(len(lines) + 1)
    return Plan(rows[SIDES][0][0], tuple(rows[STROKE]), tuple(rows[ROUND]))


def are_numbers(kind, words):
    """Whether the words are such numbers, and so many, as stand in a line of this kind."""
    if len(words) < FEWEST[kind] or kind == SIDES and len(words) > 1:
        return False
    return all([is_number(word, MOST_DIGITS) for word in words])


def drawing_text(drawing):
    """The text of a tuple of points."""
    if not isinstance(drawing, tuple) or not are_points(drawing, len(drawing)):
        raise NoDrawing()
    over = least_over(MOST_DRAWN_DIGITS)
    fractions = [fraction for point in drawing for fraction in point]
    if not all([-over < top < over and bottom < over for top, bottom in fractions]):
        raise NoDrawing()
    return "".join([line_of([fraction_text(fraction) for fraction in point]) + FEED for point in drawing])


def least_over(digits):
    """The least number that has more digits than so many."""
    worth = 1
    for _ in range(digits):
        worth = worth * 10
    return worth


def fraction_text(fraction):
    """The word of a fraction."""
    top, bottom = fraction
    return f"{top}/{bottom}"


def read_drawing(text):
    """The tuple of the points of a text."""
    lines, rest = lines_of(text)
    points = []
    for number, line in enumerate(lines, start=1):
        point = tuple([read_fraction(word) for word in line.split(BLANK)])
        if len(point) != 2 or None in point:
            raise BadText(number)
        points.append(point)
    if rest != "":
        raise BadText(len(lines) + 1)
    return tuple(points)


def read_fraction(word):
    """The fraction of a word, or None if it is that of none."""
    top, _, bottom = word.partition("/")
    size = top[1:] if top.startswith("-") else top
    if not is_number(size, MOST_DRAWN_DIGITS) or not is_number(bottom, MOST_DRAWN_DIGITS) or top == "-0":
        return None
    fraction = (int(top), int(bottom))
    return fraction if is_fraction(fraction) else None
