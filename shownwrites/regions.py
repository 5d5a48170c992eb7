"""Regions: sets of integers between two ends, of which finitely many are left out."""

from shownwrites.errors import BadSign, TooFew


def between(low, high, number):
    """True if the number lies between the ends, of which either may be missing."""
    return (low is None or low <= number) and (high is None or number <= high)


def one_form(low, high, without):
    """The least and the greatest member, and the numbers between that are left out."""
    gaps = sorted(set([number for number in without if between(low, high, number)]))
    start = 0
    while start < len(gaps) and gaps[start] == low:
        low = low + 1
        start = start + 1
    end = len(gaps)
    while end > start and gaps[end - 1] == high:
        high = high - 1
        end = end - 1
    if low is not None and high is not None and low > high:
        return (1, 0, ())
    return (low, high, tuple(gaps[start:end]))


def size_of(low, high, without):
    """The number of members, or None if an end is missing."""
    if low is None or high is None:
        return None
    return high - low + 1 - len(without)


def meet(regions):
    """The region of the integers that are members of all the regions."""
    lows = [region.low for region in regions if region.low is not None]
    highs = [region.high for region in regions if region.high is not None]
    without = [number for region in regions for number in region.without]
    return Region(max(lows, default=None), min(highs, default=None), without)


def member_outside(first, second):
    """A member of the first region that is none of the second one, or None."""
    below = [] if second.low is None else [Region(None, second.low - 1)]
    above = [] if second.high is None else [Region(second.high + 1, None)]
    for part in [*below, *above, *[Region(number, number) for number in second.without]]:
        left = meet([first, part])
        if left.size != 0:
            return left.members(1)[0]
    return None


def conditions_of(region):
    """The signs and numbers of conditions that together allow just the region's members."""
    if region.size == 1:
        return [("=", region.value)]
    low = [] if region.low is None else [(">=", region.low)]
    high = [] if region.high is None else [("<=", region.high)]
    return [*low, *high, *[("!=", number) for number in region.without]]


def end_text(end):
    """The text of an end: nothing if it is missing."""
    return "" if end is None else str(end)


def region_text(region):
    """The text of a region: its ends, and the numbers between that are left out."""
    if region.size == 0:
        return "none"
    if region.size == 1:
        return str(region.value)
    ends = "..".join([end_text(region.low), end_text(region.high)])
    if len(region.without) == 0:
        return ends
    return " ".join([ends, "but", *[str(number) for number in region.without]])


class Region:
    """A set of integers, kept in one form."""

    def __init__(self, low=None, high=None, without=()):
        self.low, self.high, self.without = one_form(low, high, without)
        self.size = size_of(self.low, self.high, self.without)
        self.value = self.low if self.size == 1 else None
        # A dict, because looking a number up in a long tuple takes long.
        self._gaps = {number: True for number in self.without}

    def __contains__(self, x):
        return between(self.low, self.high, x) and x not in self._gaps

    def __and__(self, other):
        return meet([self, other])

    def __eq__(self, other):
        return (isinstance(other, Region) and self.low == other.low
                and self.high == other.high and self.without == other.without)

    def __bool__(self):
        return bool(self.size != 0)

    def __str__(self):
        return f"{region_text(self)}"

    def within(self, other):
        """True if each member of this region is a member of the other one."""
        return meet([self, other]) == self

    def members(self, count, *, apart=()):
        """That many members in ascending order, none of which is among those apart."""
        barred = {number: True for number in apart}
        lost = [number for number in barred if number in self]
        # Told first, because a search for too many members might never end.
        if self.size is not None and self.size - len(lost) < count:
            raise TooFew(count)
        number, step = self._start()
        found = []
        while len(found) < count:
            if number in self and number not in barred:
                found.append(number)
            number = number + step
        return sorted(found)

    def _start(self):
        """Where a search for members begins, and its step."""
        if self.low is not None:
            return (self.low, 1)
        if self.high is not None:
            return (self.high, -1)
        return (0, 1)

    @staticmethod
    def of(sign, number):
        """The integers n for which n sign number holds."""
        if sign == "=":
            return Region(number, number)
        if sign == "!=":
            return Region(None, None, [number])
        if sign == "<":
            return Region(None, number - 1)
        if sign == "<=":
            return Region(None, number)
        if sign == ">":
            return Region(number + 1, None)
        if sign == ">=":
            return Region(number, None)
        raise BadSign(sign)
