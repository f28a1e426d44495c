"""The lines and words of texts."""

from threeexits.errors import NoText

FEED = "\n"
BLANK = " "
DIGITS = "0123456789"


def lines_of(text):
    """The list of the lines that have a line feed behind them, and what stands behind the last one."""
    if not isinstance(text, str):
        raise NoText()
    rows = text.split(FEED)
    return rows[:-1], rows[-1]


def is_number(word, most):
    """Whether a word is a number of so many digits at most, without a needless 0."""
    if not 1 <= len(word) <= most or not all([sign in DIGITS for sign in word]):
        return False
    return word == "0" or word[0] != "0"


def line_of(items):
    """The line of these words and numbers, without its line feed."""
    return BLANK.join([str(item) for item in items])
