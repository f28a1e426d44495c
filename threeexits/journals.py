"""Journals: texts of what was done at a desk, which may be cut."""

from threeexits.desk import Desk
from threeexits.errors import NoJournal, StrokeError
from threeexits.plans import FEWEST_SIDES, MOST_SIDES
from threeexits.webs import is_integer
from threeexits.words import BLANK, FEED, is_number, line_of, lines_of

FIRST = "desk"
SPOT_WORDS = ("at", "in")
MOST_DIGITS = 4
SIGN_WORTH = 31
LEAST_OVER = 99991


def journal(desk):
    """The text of a desk: how many corners it has, and the deeds of its log."""
    check = 0
    lines = []
    for deed in [(FIRST, desk.corners())] + desk.log():
        check = check_of(deed, check)
        lines.append(checked_line(deed, check) + FEED)
    return "".join(lines)


def checked_line(deed, check):
    """The line of a deed, or of the desk itself, with its check, without its line feed."""
    return head_of(deed) + "#" + str(check)


def head_of(deed):
    """What stands ahead of the check's sign."""
    return line_of(items_of(deed)) + BLANK


def items_of(deed):
    """The list of the words and numbers of a deed, those of spots and of names among them."""
    items = []
    for part in deed:
        if isinstance(part, tuple):
            items.extend(part)
        else:
            items.append(part)
    return items


def check_of(deed, last):
    """The check of the line of a deed behind a line with the check `last`."""
    numbers = [item for item in items_of(deed) if is_integer(item)]
    worth = sum([place * number for place, number in enumerate(numbers, start=1)])
    return (SIGN_WORTH * len(head_of(deed)) + last + worth) % LEAST_OVER


def recovered(text):
    """A pair: a desk at which the deeds of a journal were done from the front, and how many could be."""
    lines, _ = lines_of(text)
    sides, check = begun(lines)
    desk = Desk(sides)
    many = 0
    for line in lines[1:]:
        deed = deed_of(line.split(BLANK)[:-1])
        if deed is None or line != checked_line(deed, check_of(deed, check)) or not could_do(desk, deed):
            break
        check = check_of(deed, check)
        many += 1
    return desk, many


def begun(lines):
    """How many corners the desk of a journal has, and the check of its first line."""
    for sides in range(FEWEST_SIDES, MOST_SIDES + 1):
        check = check_of((FIRST, sides), 0)
        if lines[:1] == [checked_line((FIRST, sides), check)]:
            return sides, check
    raise NoJournal()


def deed_of(words):
    """What could be the deed of these words, or None if they are those of none."""
    parts = []
    for word in words[1:]:
        if word in SPOT_WORDS:
            parts.append((word,))
        elif not is_number(word, MOST_DIGITS):
            return None
        elif parts and isinstance(parts[-1], tuple):
            parts[-1] = parts[-1] + (int(word),)
        else:
            parts.append(int(word))
    if words[:1] == ["turn"]:
        return "turn", tuple(parts)
    return tuple(words[:1] + parts)


def could_do(desk, deed):
    """Whether a deed could be done at a desk; it is done then."""
    try:
        desk.do(deed)
    except StrokeError:
        return False
    return True
