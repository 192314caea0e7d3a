"""A plant: streams that are kept by names, and what they need together."""

from pinchworks.bodies import bodies_of, heating_of, outside_with
from pinchworks.checks import MOST_STREAMS, check_gap, is_stream
from pinchworks.errors import BadGroup, BadName, BadProblem, BadStreams, NoName, NothingToUndo, TooMany

LETTERS = "abcdefghijklmnopqrstuvwxyz"
LONGEST = 8


class Plant:
    """Streams by names, and what each change before was made to: its name and the stream that was there."""

    def __init__(self, gap):
        check_gap(gap)
        self.gap = gap
        self.streams = {}
        self.past = []

    def put(self, name, stream):
        """Store a stream, in place of the one of this name if there is one."""
        check_name(name)
        if not is_stream(stream):
            raise BadStreams(None)
        if name not in self.streams and len(self.streams) == MOST_STREAMS:
            raise TooMany(MOST_STREAMS)
        self.past.append((name, self.streams.get(name)))
        self.streams[name] = stream

    def drop(self, name):
        """Take a stream away and return it."""
        stream = self.get(name)
        self.past.append((name, stream))
        del self.streams[name]
        return stream

    def get(self, name):
        """Return the stream of a name."""
        check_name(name)
        if name not in self.streams:
            raise NoName("no stream has this name")
        return self.streams[name]

    def names(self):
        return tuple(sorted(self.streams))

    def undo(self):
        """Take back the last change that has not been taken back."""
        if not self.past:
            raise NothingToUndo("no change is left to be taken back")
        name, stream = self.past.pop()
        if stream is None:
            del self.streams[name]
        else:
            self.streams[name] = stream

    def problem(self):
        """Return the problem of all streams, ascending by names."""
        if not self.streams:
            raise BadProblem("a problem has at least one stream")
        return problem_of(self, self.names())

    def outside(self):
        """Return the pair (heating, cooling) of all streams."""
        bodies = bodies_of(problem_of(self, self.names()))
        return outside_with(heating_of(bodies), bodies)

    def saved(self, some):
        """Return how much less heating all streams need than some and the others apart."""
        check_group(some)
        for name in some:
            self.get(name)
        others = [name for name in self.names() if name not in some]
        apart = [heating_of(bodies_of(problem_of(self, names))) for names in (some, others)]
        return sum(apart) - self.outside()[0]


def check_name(name):
    if not isinstance(name, str) or not 1 <= len(name) <= LONGEST or any([sign not in LETTERS for sign in name]):
        raise BadName(f"a name has 1 to {LONGEST} letters from a to z")


def check_group(some):
    if not isinstance(some, tuple):
        raise BadGroup("a group is a tuple of names")
    for at, one in enumerate(some):
        if any([is_same(one, other) for other in some[:at]]):
            raise BadGroup("no name stands twice in a group")


def is_same(one, other):
    """Return whether two values are equal; True is not the same as 1."""
    return one == other and isinstance(one, bool) == isinstance(other, bool)


def problem_of(plant, names):
    """Return the problem of some streams, which may also be none."""
    return (tuple([plant.streams[name] for name in names]), (), plant.gap)
