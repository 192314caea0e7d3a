"""All errors of the package."""


class HeatError(ValueError):
    """The base class of all errors of the package."""


class BadProblem(HeatError):
    """A value is no problem, or it has neither streams nor boxes."""


class BadStreams(HeatError):
    """Streams are wrong at `index`, or as a whole (None)."""

    def __init__(self, index):
        super().__init__(f"wrong streams, index {index}")
        self.index = index


class BadBoxes(HeatError):
    """Boxes are wrong at `index`, or as a whole (None)."""

    def __init__(self, index):
        super().__init__(f"wrong boxes, index {index}")
        self.index = index


class BadGap(HeatError):
    """A value is no gap."""


class BadLevel(HeatError):
    """A value is no level or no temperature, or two of them are in the wrong order."""


class BadSupplies(HeatError):
    """Supplies are wrong at `index`, or as a whole (None)."""

    def __init__(self, index):
        super().__init__(f"wrong supplies, index {index}")
        self.index = index


class BadBarred(HeatError):
    """Barred pairs are wrong at `index`, or as a whole (None)."""

    def __init__(self, index):
        super().__init__(f"wrong barred pairs, index {index}")
        self.index = index


class BadLoads(HeatError):
    """A value is no tuple of loads."""


class Unbalanced(HeatError):
    """Givers and takers have unlike sums."""


class HasBoxes(HeatError):
    """A problem has boxes where none are allowed."""


class BadNetwork(HeatError):
    """A network is wrong at `index`, or as a whole (None)."""

    def __init__(self, index):
        super().__init__(f"wrong network, index {index}")
        self.index = index


class BadRing(HeatError):
    """A value is no ring of its network."""


class BadLoad(HeatError):
    """A value is no load that is allowed here."""


class BadPeriods(HeatError):
    """Periods are wrong at `index`, or as a whole (None)."""

    def __init__(self, index):
        super().__init__(f"wrong periods, index {index}")
        self.index = index


class BadFlag(HeatError):
    """A value is neither True nor False."""


class BadHeating(HeatError):
    """A value is no heating, or too small a one."""


class BadPath(HeatError):
    """A value is no path of its network."""


class BadSpreads(HeatError):
    """A value is no tuple of spreads."""


class BadWater(HeatError):
    """Water is wrong at `index`, or as a whole (None)."""

    def __init__(self, index):
        super().__init__(f"wrong water, index {index}")
        self.index = index


class BadDirt(HeatError):
    """A value is no dirt."""


class BadPrice(HeatError):
    """A value is no price."""


class BadEngine(HeatError):
    """A value is no engine."""


class BadPrices(HeatError):
    """A value is no table of prices."""


class BadJobs(HeatError):
    """Jobs are wrong at `index`, or as a whole (None)."""

    def __init__(self, index):
        super().__init__(f"wrong jobs, index {index}")
        self.index = index


class BadName(HeatError):
    """A value is no name of a stream."""


class NoName(HeatError):
    """No stream has this name."""


class NothingToUndo(HeatError):
    """Nothing is left that could be taken back."""


class BadGroup(HeatError):
    """A value is no tuple of unlike names."""


class BadStructure(HeatError):
    """A structure is wrong at `index`, or as a whole (None)."""

    def __init__(self, index):
        super().__init__(f"wrong structure, index {index}")
        self.index = index


class BadSwings(HeatError):
    """A value is no tuple of swings."""


class BadOwners(HeatError):
    """A value is no tuple of owners."""


class BadColumns(HeatError):
    """Columns are wrong at `index`, or as a whole (None)."""

    def __init__(self, index):
        super().__init__(f"wrong columns, index {index}")
        self.index = index


class BadMains(HeatError):
    """A value is no tuple of mains."""


class BadMatch(HeatError):
    """A value is not the number of a hot, or of a cold, stream."""


class OutOfRange(HeatError):
    """A temperature would leave its range."""


class OtherGap(HeatError):
    """Two problems have unlike gaps."""


class NotText(HeatError):
    """A value is no string."""


class InvalidText(HeatError):
    """A line of a text cannot stand; `place` is the number of its first wrong word."""

    def __init__(self, line, place):
        super().__init__(f"line {line} cannot stand from word {place} on")
        self.line = line
        self.place = place


class TooMany(HeatError):
    """There are more things than the `most` that are allowed."""

    def __init__(self, most):
        super().__init__(f"more than {most}")
        self.most = most
