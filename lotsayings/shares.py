"""Shares of tracks in fitting terms: the greatest and the least ones of loops."""

from lotsayings.cuts import check_number
from lotsayings.fractions import fraction
from lotsayings.gains import Gains
from lotsayings.leasts import least


class Shares:
    """The greatest and the least shares of loops for a track, and what fitting terms have beyond them."""

    def __init__(self, machine, track):
        check_number(track, "track", 0, machine.many - 1)
        self.machine = least(machine)
        self.track = track
        self._high = (None, None, None)
        self._low = (None, None, None)
        looping = Gains(self.machine, (0,) * machine.many + (1,)).looping
        if looping is not None:
            self._high = greatest_share(self.machine, track, looping, 1)
            self._low = greatest_share(self.machine, track, looping, -1)

    @property
    def highest(self):
        """The greatest share of a loop."""
        return self._high[0]

    @property
    def lowest(self):
        """The least share of a loop."""
        return self._low[0]

    @property
    def over(self):
        """How much more than the greatest share of its places a fitting term has in the track at most."""
        return self._high[1]

    @property
    def under(self):
        """How much more than the least share of its places a fitting term has in the track at least."""
        return self._low[1]

    @property
    def loop_high(self):
        """A loop with the greatest share."""
        return self._high[2]

    @property
    def loop_low(self):
        """A loop with the least share."""
        return self._low[2]

    @property
    def fixed(self):
        """The share and the rest by which all fitting terms tell the places in the track from all places."""
        if self._high[0] is None or self._high[:2] != self._low[:2]:
            return None
        return self._high[:2]


def greatest_share(machine, track, looping, sign):
    """The greatest share of a loop (least for the sign -1), the greatest rest beyond it (least), and the loop.

    As long as some loop gains more than the share known so far, it has a better share. When none does, the gains of
    the fitting terms are bounded.
    """
    while True:
        context, state, counts = looping
        share = fraction(counts[track], counts[-1])
        form = [0] * (machine.many + 1)
        form[track] = sign * share[1]
        form[-1] = -sign * share[0]
        gains = Gains(machine, form)
        if gains.looping is None:
            most = max([gains.worths[accepted] for accepted in machine.accepted])
            return share, fraction(sign * most, share[1]), (context, state)
        looping = gains.looping
