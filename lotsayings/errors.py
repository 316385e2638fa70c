"""The errors of the program, also those that only some of its modules raise."""


class LotError(ValueError):
    """Stands above every other error of the program."""


class BadWeb(LotError):
    """What was passed is no web; which is "size" or "arrows"."""

    def __init__(self, which):
        self.which = which


class BadBench(LotError):
    """What was passed is no bench; which is "labels", "starts" or "joins"."""

    def __init__(self, which):
        self.which = which


class BadMachine(LotError):
    """What was passed is no machine; which is "bench", "many", "leaves", "rows" or "accepted"."""

    def __init__(self, which):
        self.which = which


class BadNumber(LotError):
    """An argument is no integer, or is out of its bounds; which tells the argument."""

    def __init__(self, which):
        self.which = which


class TooMany(LotError):
    """There are more than a function takes; which tells of what."""

    def __init__(self, which):
        self.which = which


class BadTerm(LotError):
    """What was passed is no term or no context; path leads to the first wrong part."""

    def __init__(self, path):
        self.path = path


class BadSaying(LotError):
    """What was passed is no saying or no expression; path leads to the first wrong part."""

    def __init__(self, path):
        self.path = path


class BadText(LotError):
    """A text is not that of a saying; at is the number of the first word that cannot stand."""

    def __init__(self, at):
        self.at = at


class BadName(LotError):
    """What was passed is no name, or no name that can stand there."""

    def __init__(self, name):
        self.name = name


class NoLot(LotError):
    """A name has no lot, or no track."""

    def __init__(self, name):
        self.name = name


class TooGreat(LotError):
    """A step reaches too many states; step is "atom", "pairs", "sets", "rows" or "nodes"."""

    def __init__(self, step):
        self.step = step


class BadLot(LotError):
    """What was passed is no lot."""


class BadOrder(LotError):
    """What was passed is no renumbering."""


class OtherBench(LotError):
    """Two machines do not have the same bench."""


class OtherTracks(LotError):
    """Two machines do not have as many tracks, or a machine has none."""


class NotOnTrees(LotError):
    """A machine is on a bench that a function does not take."""


class NotWeb(LotError):
    """A machine is no web machine."""


class NotPicked(LotError):
    """No machine picks for a machine."""
