"""Names and lot expressions."""

from lotsayings.errors import BadSaying, NoLot
from lotsayings.webs import lot_of

SMALL = "abcdefghijklmnopqrstuvwxyz"
CAPITAL = "ABCDEFGHIJKLMNOPQRSTUVWXYZ"
DIGITS = "0123456789"
SIGNS = ("&", "|", "-", "^")
NO_PLACE = "none"
ALL_PLACES = "every"


def is_name(value):
    """Whether value is a name: a letter with at most two digits behind it."""
    if not isinstance(value, str) or not 1 <= len(value) <= 3:
        return False
    if value[0] not in SMALL and value[0] not in CAPITAL:
        return False
    return all([digit in DIGITS for digit in value[1:]])


def is_place_name(value):
    """Whether value is a name with a small letter."""
    return is_name(value) and value[0] in SMALL


def is_sign(word):
    """Whether word, which may be anything, is a sign that joins two expressions."""
    return isinstance(word, str) and word in SIGNS


def check_expression(expression):
    """None if it is a lot expression, else BadSaying with the path to the first wrong part."""
    check_expression_at(expression, ())


def check_expression_at(expression, path):
    """None if it is a lot expression, else BadSaying; path leads to the expression."""
    if isinstance(expression, str):
        if expression != NO_PLACE and expression != ALL_PLACES and not is_name(expression):
            raise BadSaying(path)
    elif isinstance(expression, tuple) and len(expression) == 3 and is_sign(expression[0]):
        check_expression_at(expression[1], path + (1,))
        check_expression_at(expression[2], path + (2,))
    else:
        raise BadSaying(path)


def names_from_left(expression):
    """The names of an expression as they stand, from left to right."""
    if isinstance(expression, tuple):
        return names_from_left(expression[1]) + names_from_left(expression[2])
    if expression == NO_PLACE or expression == ALL_PLACES:
        return []
    return [expression]


def names_in(expression):
    """The names of an expression, ascending."""
    return tuple(sorted(set(names_from_left(expression))))


def mask_of(lot):
    """A number with the digit of 2^x for each place x of the lot."""
    mask = 0
    for place in lot:
        mask = mask | 1 << place
    return mask


def lot_of_mask(mask, size):
    """The lot with the places x < size whose digit of 2^x is 1."""
    return tuple([place for place in range(size) if mask >> place & 1])


def combined(sign, one, two):
    """The mask that a sign makes of two masks."""
    if sign == "&":
        return one & two
    if sign == "|":
        return one | two
    if sign == "-":
        return one & ~two
    return one ^ two


def mask_by(expression, size, lots):
    """The mask of the lot of an expression; the names are judged from left to right."""
    if isinstance(expression, tuple):
        one = mask_by(expression[1], size, lots)
        two = mask_by(expression[2], size, lots)
        return combined(expression[0], one, two)
    if expression == NO_PLACE:
        return 0
    if expression == ALL_PLACES:
        return (1 << size) - 1
    if expression not in lots:
        raise NoLot(expression)
    return mask_of(lot_of(lots[expression], size))


def lot_by(expression, size, lots):
    """The lot of an expression with a dict of lots."""
    return lot_of_mask(mask_by(expression, size, lots), size)
