"""The machines of single sayings."""

from lotsayings.errors import BadName, BadSaying, NoLot, TooGreat, TooMany
from lotsayings.links import ArrowCodes, CountCodes, told_apart
from lotsayings.lots import is_name, lot_by
from lotsayings.machines import MOST_TRACKS, bits_of, least_told
from lotsayings.quotients import refined
from lotsayings.sayings import SINGLE, check_saying, free_names
from lotsayings.shells import MOST_STATES, explored, found_first

# So many codes are found at first, ever more if it is not known then whether there are too many states.
FIRST_CODES = 200


def check_names(names, needed):
    """BadName for what is no name or stands among names twice, NoLot for a needed name that does not."""
    for at, name in enumerate(names):
        if not is_name(name) or name in names[:at]:
            raise BadName(name)
    for name in needed:
        if name not in names:
            raise NoLot(name)


def atom_machine(saying, bench, names):
    """The least machine that answers whether the single saying is true; track i is for the i-th name."""
    check_saying(saying)
    if saying[0] not in SINGLE:
        raise BadSaying(())
    check_names(names, free_names(saying))
    if len(names) > MOST_TRACKS:
        raise TooMany("tracks")
    spec = codes_for(saying, bench, names)
    check_not_many(spec)
    found = explored(spec, None, "atom")
    values = [spec.accepts(code) for code in found[0]]
    if max(refined(found[2], values)) >= MOST_STATES:
        raise TooGreat("atom")
    return least_told(bench, len(names), found, values)


def check_not_many(spec):
    """TooGreat if among the codes found first so many are told apart that no atom can have them all."""
    most = FIRST_CODES
    codes = found_first(spec, most)
    while len(codes) == most:
        if told_apart(spec, codes) > MOST_STATES:
            raise TooGreat("atom")
        most = most * 2
        codes = found_first(spec, most)


def codes_for(saying, bench, names):
    """The codes for a single saying: all four words count places or arrows."""
    word = saying[0]
    if word == "in":
        return counted(("-", saying[1], saying[2]), (0, 1, 1), bench, names)
    if word == "count":
        return counted(saying[1], saying[2:], bench, names)
    told = (1, 1, 1) if word == "to" else saying[3:]
    a, t, d = shortest(told)
    rows = [members(saying[1], names), members(saying[2], names)]
    return ArrowCodes(bench, rows, a, t, d)


def counted(expression, told, bench, names):
    """The codes that count the places of a lot."""
    a, t, d = shortest(told)
    return CountCodes(bench, members(expression, names), a, t, d)


def members(expression, names):
    """For each number of bits whether a place with these bits is in the lot of the expression."""
    found = []
    for number in range(1 << len(names)):
        bits = bits_of(number, len(names))
        lots = {name: (0,) * bit for name, bit in zip(names, bits)}
        found.append(len(lot_by(expression, 1, lots)))
    return found


def shortest(told):
    """Numbers (a, t, d) with the least t and d for which the same integers cut by (t, d) are a."""
    a, t, d = told
    if a < t:
        return a, a + 1, 1
    return a, max(0, a - d + 1), d
