"""Lines: rooms and passages in a row, given by the shares that move down."""

from tracerline.chains import expanded, series_of
from tracerline.errors import BadLine, BadShare, BadTick
from tracerline.exact import Fraction, as_fraction, common_bottom, over_bottom
from tracerline.webs import Web


class Line:
    """The line with the shares p(1), .., p(K): strictly between 0 and 1, but for the last one, which is 0 or 1."""

    def __init__(self, shares):
        kept = [as_fraction(share) for share in shares]
        _check_shares(kept)
        self._shares = kept
        self.end = kept[-1].top
        last_node = self._last_node()
        self.rooms = last_node // 2 + 1
        self.passages = (last_node + 1) // 2

    @classmethod
    def cut(cls, shares):
        """The line of the entries up to and including the first one that is 0 or 1."""
        for place, share in enumerate(shares):
            if share == 0 or share == 1:
                return cls(shares[:place + 1])
            if share < 0 or share > 1:
                raise BadLine(place)
        raise BadLine(len(shares))

    def shares(self):
        """The shares, in a new list."""
        return list(self._shares)

    def __len__(self):
        return len(self._shares)

    def __getitem__(self, at):
        return self._shares[at]

    def __iter__(self):
        raise TypeError("a line is not iterated over; take its shares()")

    def __eq__(self, other):
        if not isinstance(other, Line):
            return NotImplemented
        return self._shares == other._shares

    def __ne__(self, other):
        return not self == other

    def __call__(self, tick):
        top, bottom = self._expanded(tick)[tick]
        return Fraction(top, bottom)

    def readings(self, ticks):
        """The readings at the ticks 0 to ticks."""
        return [Fraction(top, bottom) for top, bottom in self._expanded(ticks)]

    def web(self):
        """A web with the same numbers of rooms and passages and the same readings."""
        widths = self._joint_widths()
        rows = [[0] * self.passages for _ in range(self.rooms)]
        for node in range(self._last_node()):
            rows[(node + 1) // 2][node // 2] = widths[node]
        room_leaks = [0] * self.rooms
        passage_leaks = [0] * self.passages
        if self.end == 0:
            leaks = passage_leaks if self._last_node() % 2 == 1 else room_leaks
            leaks[-1] = widths[-1]
        return Web(rows, room_leaks=room_leaks, passage_leaks=passage_leaks)

    def limit(self):
        """The number that the readings approach."""
        if self.end == 0:
            return Fraction(0)
        # What the nodes hold in the end, in proportion: node 0 holds 1.
        held = [Fraction(1)]
        onward = Fraction(1)
        for share in self._shares:
            held.append((held[-1] * onward).over(share))
            onward = 1 - share
        total = Fraction(0)
        for amount in held[::2]:
            total = total + amount
        return Fraction(1).over(total)

    def worth(self, keep):
        """The sum of keep ** t times the reading at t over all ticks. Raises BadShare(keep)."""
        if keep < 0 or keep > 1 or (keep == 1 and self.end == 1):
            raise BadShare(keep)
        upper, lower = series_of(self._shares)
        return upper(keep).over(lower(keep))

    def _last_node(self):
        """The number of the last node."""
        return len(self._shares) - 1 + self.end

    def _expanded(self, ticks):
        """The readings at the ticks 0 to ticks as tuples (top, bottom), not in lowest terms."""
        if ticks < 0:
            raise BadTick(ticks)
        upper, lower = series_of(self._shares)
        return expanded(upper, lower, ticks)

    def _joint_widths(self):
        """The widths above the nodes 0, 1, .. as integers; with the end 0 the last one is that of the leak."""
        widths = [Fraction(1)]
        for share in self._shares[:-1]:
            widths.append((widths[-1] * (1 - share)).over(share))
        scale = common_bottom(widths)
        return [over_bottom(width, scale) for width in widths]


def _check_shares(shares):
    """Raise BadLine with the index of the first share that is wrong in a line."""
    if not shares:
        raise BadLine(0)
    for place, share in enumerate(shares[:-1]):
        if share <= 0 or share >= 1:
            raise BadLine(place)
    if shares[-1] != 0 and shares[-1] != 1:
        raise BadLine(len(shares) - 1)
