"""Integers within bounds: as values, as steps to look, and as words of a text."""

from looksfar.errors import BadReach


def is_number(value, low, high):
    """True if the value is an integer from low to high."""
    # True and False are integers to Python, but none to this package.
    if not isinstance(value, int) or isinstance(value, bool):
        return False
    return low <= value <= high


def check_reach(reach, low, high):
    """Returns None, or raises BadReach if reach is no integer from low to high."""
    if not is_number(reach, low, high):
        raise BadReach("not an integer within its bounds")


def product_of(numbers):
    """The product of the numbers, 1 if there are none."""
    product = 1
    for number in numbers:
        product = product * number
    return product


def read_number(word, low, high):
    """The number from low to high that the word writes, or None if it writes none."""
    # A word that is too long is not handed to int, which fails for thousands of figures.
    if len(word) > len(str(high)):
        return None
    # isdigit alone also takes the figures of other scripts.
    if not word.isascii() or not word.isdigit():
        return None
    number = int(word)
    # Only the word as str writes it has no leading zeros.
    if str(number) != word or not is_number(number, low, high):
        return None
    return number
