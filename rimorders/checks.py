"""What arguments have to be: questions, and checks that raise the errors."""

from math import gcd

from rimorders.errors import InvalidIndex, InvalidNumber, InvalidStep

_LONGEST_NAME = 8


def is_integer(given):
    """Whether it is an int other than True and False."""
    return isinstance(given, int) and not isinstance(given, bool)


def is_fraction(given):
    """Whether it is a pair (top, bottom) in lowest terms, the bottom from 1 on."""
    if not isinstance(given, tuple) or len(given) != 2:
        return False
    top, bottom = given
    if not is_integer(top) or not is_integer(bottom):
        return False
    return bottom >= 1 and gcd(top, bottom) == 1


def is_step(given):
    """Whether it is a fraction from 0 on, below 1."""
    return is_fraction(given) and 0 <= given[0] < given[1]


def is_part(given):
    """Whether it is a fraction from 0 to 1, these included."""
    return is_fraction(given) and 0 <= given[0] <= given[1]


def is_less(one, other):
    """Whether a fraction is less than another one."""
    return one[0] * other[1] < other[0] * one[1]


def is_number(given, least, most):
    """Whether it is an integer from the least one to the most."""
    return is_integer(given) and least <= given <= most


def is_name(given):
    """Whether it is a string of one to eight letters from a to z."""
    if not isinstance(given, str) or len(given) > _LONGEST_NAME:
        return False
    return given.isascii() and given.isalpha() and given.islower()


def check_step(given):
    """Raises InvalidStep if it is no step."""
    if not is_step(given):
        raise InvalidStep(given)


def check_number(given, least, most):
    """Raises InvalidNumber if it is no integer from the least one to the most."""
    if not is_number(given, least, most):
        raise InvalidNumber(given)


def check_index(given, many):
    """Raises InvalidIndex if it is no index of one of so many."""
    if not is_number(given, 0, many - 1):
        raise InvalidIndex(given)
