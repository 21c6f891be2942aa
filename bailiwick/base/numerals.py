"""The texts of numbers and integers, which have no needless zeros."""

from bailiwick.base.words import MOST_NUMBER

# More digits are read nowhere: Python itself bounds how many it turns into an integer.
MOST_DIGITS = 900


def are_plain_digits(signs):
    """Whether the signs are digits without needless zeros."""
    return signs.isdigit() and (signs == "0" or signs[0] != "0")


def read_place(signs):
    """The number, or 0, that some signs tell; None if they tell none."""
    if not are_plain_digits(signs) or len(signs) > len(str(MOST_NUMBER)):
        return None
    number = int(signs)
    return number if number <= MOST_NUMBER else None


def read_number(signs):
    """The number that some signs tell; None if they tell none."""
    number = read_place(signs)
    return None if number == 0 else number


def read_integer(signs):
    """The integer that some signs tell; None if they tell none."""
    digits = signs[1:] if signs.startswith("-") else signs
    if not are_plain_digits(digits) or len(digits) > MOST_DIGITS or signs == "-0":
        return None
    return int(signs)
