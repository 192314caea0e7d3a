"""Values that are not allowed, with the errors that the document names for them."""

from pinchworks import errors

JUNK = [
    None, True, False, 0, 1, -1, 2, 5, 100, -7, 10 ** 30, -10 ** 30, "", "a", "10", "None", "stream 1 2 3",
    (), (0,), (1,), (None,), (True,), (False, True), (1, True), (True, 1), (0, False), (5, None), ("a", "b"),
    (1, 2), (0, 1), (1, 2, 3), (1, 2, 3, 4), (1, 2, 3, 4, 5), (0, 1, 0, 1, True), ((),), ((), ()), ((), (), ()),
    ((), (), 0), ((1, 2),), ([1, 2],), ({},), ({0: 1},), (((),),), ((None, None),), ((0, True), (1, False)),
    ((0, False),), ((0, 1),), ((True, False),), (([],), ((),), {}), ((0, 1, 2),), ((0, 1, True),),
    ((0, 1, 0, 1, 1),), ((0, 0, 1, 0, "5"),), ((0, 0, 1, 0, (5,)),), (None, None), (None, None, None),
    [], [0], [None], [0, 1], [(0, 1)], [(0, False)], [(180, 60, 2)], [[], [], 0], [()],
    {}, {0: 1}, {"a": 1}, {0: (0, 1)}, {"streams": ()}, {(): ()}, ((0, []), {}), ([0, False],), (0, [1]), (0, {1: 2}),
]

STREAM = (180, 60, 2)
BOX = (100, -40)

BAD_STREAMS = [
    None, True, 0, "abc", (), (180, 60), (180, 60, 2, 2), [180, 60, 2], {0: 180, 1: 60, 2: 2},
    (180, 180, 2), (1001, 60, 2), (-1, 60, 2), (180, 1001, 2), (180, -1, 2), (180, 60, 0), (180, 60, 101),
    (180, 60, -2), (True, 60, 2), (180, False, 2), (180, 60, True), ("180", 60, 2), (180, None, 2),
    (180, 60, (2,)), ((180, 60), 2), (180, 60, [2]), (180, 60, {}), (1, True, 1), (False, True, 1),
]

BAD_BOXES = [
    None, False, 5, "ab", (), (100,), (100, -40, 1), [100, -40], {100: -40}, (100, 0), (100, 10001), (100, -10001),
    (-1, 5), (1001, 5), (True, 5), (100, True), (100, False), ("100", 5), (100, "5"), (None, 5), (100, (5,)),
    ((100, 5),), ([100], 5),
]

BAD_GAPS = [None, True, False, -1, 101, 10 ** 30, "10", "", (), (10,), [10], {}, {10: 10}]


def problem_faults():
    """Return the pairs (value, error) of values that are no problem."""
    found = []
    for value in JUNK:
        if not (isinstance(value, tuple) and len(value) == 3):
            found.append((value, errors.BadProblem("no triple")))
    found.append((((), (), 10), errors.BadProblem("empty")))
    found.append((((STREAM,), (BOX,)), errors.BadProblem("no triple")))
    found.append((((STREAM,), (BOX,), 10, 10), errors.BadProblem("no triple")))
    found.append(([(STREAM,), (BOX,), 10], errors.BadProblem("no triple")))
    for value in [None, True, 0, "ab", [], [STREAM], {0: STREAM}, (STREAM,) * 7, (None,) * 7]:
        found.append(((value, (BOX,), 10), errors.BadStreams(None)))
        found.append(((value, None, None), errors.BadStreams(None)))
    for value in BAD_STREAMS:
        found.append((((value,), (), 10), errors.BadStreams(0)))
        found.append((((STREAM, (20, 100, 3), value, value), (), 10), errors.BadStreams(2)))
        found.append((((STREAM,) * 5 + (value,), (None,), True), errors.BadStreams(5)))
    for value in [None, False, 1, "", [], [BOX], {}, (BOX,) * 5, (None,) * 5]:
        found.append((((STREAM,), value, 10), errors.BadBoxes(None)))
        found.append((((), value, -1), errors.BadBoxes(None)))
    for value in BAD_BOXES:
        found.append((((), (value,), 10), errors.BadBoxes(0)))
        found.append((((STREAM,), (BOX, BOX, BOX, value), None), errors.BadBoxes(3)))
        found.append((((STREAM,), (BOX, value, value), 10), errors.BadBoxes(1)))
    for value in BAD_GAPS:
        found.append((((STREAM,), (BOX,), value), errors.BadGap("no gap")))
        found.append((((), (), value), errors.BadGap("told ahead of an empty problem")))
    return found


BAD_LEVELS = [value for value in JUNK if not isinstance(value, int) or isinstance(value, bool)]


def supply_faults():
    """Return the pairs (value, error) of values that are no supplies."""
    found = []
    for value in [None, True, 0, "ab", (), [], [(200, 5)], {}, {200: 5}, ((200, 5),) * 6, (None,) * 6]:
        found.append((value, errors.BadSupplies(None)))
    for value in [
        None, False, 7, "ab", (), (200,), (200, 5, 1), [200, 5], {200: 5}, (-1, 5), (1001, 5), (200, -1), (200, 1001),
        (True, 5), (200, True), (200, False), ("200", 5), (200, None), (200, (5,)), ((200, 5),), ([], {}),
    ]:
        found.append(((value,), errors.BadSupplies(0)))
        found.append((((200, 5), value, value), errors.BadSupplies(1)))
        found.append((((200, 5),) * 4 + (value,), errors.BadSupplies(4)))
    return found


def barred_faults():
    """Return the pairs (value, error) of values that cannot be barred in the problem of `BARRABLE`."""
    found = []
    for value in [None, True, False, 0, 5, "", "ab", [], [(0, 1)], {}, {(0, 1): True}]:
        found.append((value, errors.BadBarred(None)))
    for value in [
        None, True, 0, "ab", (), (0,), (0, 1, 1), [0, 1], {0: 1}, (1, 0), (0, 0), (1, 1), (0, 3), (2, 1), (-1, 1),
        (0, -1), (0, 4), (4, 1), (True, 1), (False, 1), (0, True), ("0", "1"), (None, 1), (0, (1,)), ((0, 1),),
    ]:
        found.append(((value,), errors.BadBarred(0)))
        found.append((((0, 1), value), errors.BadBarred(1)))
        found.append((((0, 1), (0, 2), value, value), errors.BadBarred(2)))
    found.append((((0, 1), (0, 1)), errors.BadBarred(1)))
    found.append((((0, 2), (0, 1)), errors.BadBarred(1)))
    found.append((((0, 1), (3, 1), (0, 2)), errors.BadBarred(2)))
    return found


# Givers are 0 and 3, takers 1 and 2.
BARRABLE = (((180, 60, 2), (20, 100, 3)), ((100, -40), (150, 30)), 10)

LOADS_FAULTS = [
    None, True, False, 0, 5, "", "5", "12345", (), (1,) * 6, [5, 3], [8], {8: 8}, {}, (0, 8), (-8,), (10001,),
    (True,), (8, True), (False,), (None,), ("8",), ((8,),), ([8],), ({},), (5, 3, None),
]

# The problem in which these are no networks, with a hot, a cold and another hot stream.
NETWORKED = (((180, 60, 2), (20, 100, 3), (150, 50, 1)), (), 10)


def network_faults():
    """Return the pairs (value, error) of values that are no network for the problem of `NETWORKED`."""
    found = []
    for value in [None, True, False, 0, 5, "", "ab", [], [(0, 1, 60)], {}, {0: 1}, ((0, 1, 60),) * 13, (None,) * 13]:
        found.append((value, errors.BadNetwork(None)))
    for value in [
        None, True, 0, "abc", (), (0, 1), (0, 1, 60, 1), [0, 1, 60], {0: 1}, (-1, -1, 60), (1, 0, 60), (0, 0, 60),
        (1, 1, 60), (0, 2, 60), (3, 1, 60), (0, 3, 60), (-2, 1, 60), (0, -2, 60), (0, 1, 0), (0, 1, -60),
        (0, 1, 100001), (False, 1, 60), (0, True, 60), (0, 1, True), ("0", 1, 60), (0, None, 60), (0, 1, "60"),
        (0, 1, (60,)), ((0, 1), 60), (None, 1, 60), ([0], {}, ()), (-1, True, 60),
    ]:
        found.append(((value,), errors.BadNetwork(0)))
        found.append((((0, 1, 60), value, value), errors.BadNetwork(1)))
        found.append((((0, 1, 60),) * 11 + (value,), errors.BadNetwork(11)))
    return found


BAD_FLAGS = [value for value in JUNK if not isinstance(value, bool)]


def period_faults():
    """Return the pairs (value, error) of values that are no periods."""
    good, other = ((STREAM,), (BOX,), 10), ((STREAM,), (BOX,), 11)
    found = []
    for value in [None, True, False, 0, 4, "", "ab", (), [], [good], {}, {0: good}, (good,) * 5, (None,) * 5]:
        found.append((value, errors.BadPeriods(None)))
    for value, _ in problem_faults():
        found.append(((value,), errors.BadPeriods(0)))
        found.append(((good, good, value, other), errors.BadPeriods(2)))
    for value in JUNK:
        found.append(((good, good, good, value), errors.BadPeriods(3)))
    found.append((good, errors.BadPeriods(0)))
    found.append(((good, other), errors.BadPeriods(1)))
    found.append(((good, good, good, other), errors.BadPeriods(3)))
    found.append(((good, other, other, None), errors.BadPeriods(1)))
    found.append(((None, other, other), errors.BadPeriods(0)))
    return found


def spread_faults():
    """Return values that are no spreads for the problem of `BARRABLE`: two streams, the rates 2 and 3."""
    found = [value for value in JUNK if value not in ((0, 1), (1, 2))] + [(True, 1), (1, True), (False, 0), (0, False)]
    found += [(0, -1), (-1, 0), (2, 0), (0, 3), (0,), (0, 0, 0), (0, 0, 0, 0), [0, 0], (0, "0"), (0, None), (0, (0,))]
    return found


def water_faults():
    """Return the pairs (value, error) of values that are no water."""
    good = ((50, 10), (20, 30))
    found = []
    for value in JUNK:
        is_pair = isinstance(value, tuple) and len(value) == 2
        if not (is_pair and all(isinstance(side, tuple) and 1 <= len(side) <= 4 for side in value)):
            found.append((value, errors.BadWater(None)))
        if value != ((1, 2),):
            is_side = isinstance(value, tuple) and 1 <= len(value) <= 4
            found.append(((value, value), errors.BadWater(0 if is_side else None)))
    for side in [None, True, 0, 2, "ab", (), [], list(good), {}, {0: 1}, good * 3, (None,) * 5]:
        found.append(((side, good), errors.BadWater(None)))
        found.append(((good, side), errors.BadWater(None)))
        found.append((((None,), side), errors.BadWater(None)))
    found += [((good,), errors.BadWater(None)), ((good, good, good), errors.BadWater(None))]
    found += [([good, good], errors.BadWater(None)), ({0: good, 1: good}, errors.BadWater(None))]
    for value in [
        None, True, False, 5, "ab", (), (50,), (50, 10, 1), [50, 10], {50: 10}, (0, 10), (-1, 10), (1001, 10), (50, -1),
        (50, 1001), (True, 10), (50, True), (50, False), ("50", 10), (50, None), (50, (10,)), ((50, 10),), ([], {}),
    ]:
        found.append((((value,), good), errors.BadWater(0)))
        found.append(((good, (value,)), errors.BadWater(2)))
        found.append(((good * 2, good + (value, value)), errors.BadWater(6)))
        found.append((((good[0], value), (value,)), errors.BadWater(1)))
        found.append(((good * 2, good + (good[0], value)), errors.BadWater(7)))
    return found


def engine_faults():
    """Return values that are no engines."""
    found = list(JUNK) + [[300, 250, 50, 10], {300: 250}, (300, 250, 50), (300, 250, 50, 10, 1)]
    found += [(250, 250, 50, 10), (250, 300, 50, 10), (1001, 250, 50, 10), (300, -1, 50, 10), (300, 250, 50, 0)]
    found += [(300, 250, 50, 50), (300, 250, 50, 51), (300, 250, 50, -10), (300, 250, 10001, 10), (300, 250, -50, -60)]
    for at in range(4):
        for value in (None, True, False, "10", "", (), (10,), [10], {}):
            found.append((300, 250, 50, 10)[:at] + (value,) + (300, 250, 50, 10)[at + 1:])
    return found + [(True, False, 50, 10), (1, False, 50, 10), (300, 250, 2, True), (300, 250, 1, 1), (300, 250, 1, 0)]


JOB = ((180, 60, 2), 3, 7)


def job_faults():
    """Return the pairs (value, error) of values that are no jobs."""
    found = []
    for value in JUNK:
        is_row = isinstance(value, tuple) and 1 <= len(value) <= 6
        found.append((value, errors.BadJobs(0 if is_row else None)))
        found.append(((JOB, JOB, value, None), errors.BadJobs(2)))
    for value in [[JOB], {0: JOB}, (JOB,) * 7, (None,) * 7]:
        found.append((value, errors.BadJobs(None)))
    bad = [(stream, 3, 7) for stream in BAD_STREAMS]
    bad += [(STREAM, 7, 7), (STREAM, 7, 3), (STREAM, -1, 7), (STREAM, 3, 51), (STREAM, 50, 51), (STREAM, 51, 52)]
    bad += [(STREAM, 3), (STREAM, 3, 7, 7), [STREAM, 3, 7], {STREAM: 3}, (3, 7, STREAM), STREAM, (STREAM, 0, True)]
    bad += [(STREAM, False, 7), (STREAM, False, True), (STREAM, 0, 0), (STREAM, 0, False), (STREAM, -2, -1)]
    for value in (None, True, False, "3", "", (), (3,), [3], {}, {3: 3}):
        bad += [(STREAM, value, 7), (STREAM, 3, value), (STREAM, value, value)]
    for value in bad:
        found.append(((value,), errors.BadJobs(0)))
        found.append(((JOB, value, value), errors.BadJobs(1)))
        found.append(((JOB,) * 5 + (value,), errors.BadJobs(5)))
    return found


BAD_NAMES = [
    None, True, False, 0, 1, -1, 10 ** 30, "", "A", "Ab", "aB", "abcdefghi", "a" * 100, "a1", "1", "a b", " a", "a ", "a\n",
    "\n", "a_b", "a-b", "a.", "\u00e4", "\u0430", "\uff41", "a\u0301", "\u00aa", (), ("a",), ["a"], [], {}, {"a": 1},
    (None,), ("a", "b"), ["a", "b"], {"a": "b"},
]

GOOD_NAMES = ["a", "z", "ab", "zz", "abcdefgh", "zzzzzzzz", "none", "true", "stream", "qwertyui"]


def structure_faults():
    """Return the pairs (value, error) of values that are no structure for the problem of `NETWORKED`."""
    found = []
    for value in JUNK:
        is_row = isinstance(value, tuple) and len(value) <= 10
        if value not in ((), ((0, 1),)) or not isinstance(value, tuple):
            found.append((value, errors.BadStructure(0 if is_row else None)))
    for value in [[(0, 1)], {0: 1}, ((0, 1),) * 11, (None,) * 11]:
        found.append((value, errors.BadStructure(None)))
    for value in [
        None, True, 0, "ab", (), (0,), (0, 1, 60), [0, 1], {0: 1}, (-1, -1), (1, 0), (0, 0), (1, 1), (0, 2), (3, 1), (0, 3),
        (-2, 1), (0, -2), (False, 1), (0, True), (False, True), ("0", 1), (0, "1"), (0, None), (None, 1), (0, (1,)), ((0, 1),),
        ([0], {}), (-1, True), (-1, 0), (1, -1), (10 ** 30, 1), (0, 10 ** 30), (-1, None), (None, -1),
    ]:
        found.append(((value,), errors.BadStructure(0)))
        found.append((((0, 1), (-1, 1), value, value), errors.BadStructure(2)))
        found.append((((0, 1),) * 9 + (value,), errors.BadStructure(9)))
    return found


def swing_faults():
    """Return values that are no swings for the streams (180, 60, 2), (20, 100, 3), (150, 148, 1)."""
    found = [value for value in JUNK if value != (0, 1, 0)]
    for at, most in enumerate((50, 50, 1)):
        for value in (None, True, False, -1, most + 1, 51, 10 ** 30, "0", "", (), (0,), [0], {}, {0: 0}):
            found.append((0, 0, 0)[:at] + (value,) + (0, 0, 0)[at + 1:])
    return found + [[0, 0, 0], (0, 0), (0, 0, 0, 0), {0: 0, 1: 0, 2: 0}, (0, 0, 2), (51, 51, 2), (119, 0, 0), (0, 79, 0)]


def owner_faults():
    """Return values that are no owners for the problem of `BARRABLE`: two streams and two boxes."""
    found = [value for value in JUNK if value != (0, 1, 0, 1)]
    for at in range(4):
        for value in (None, True, False, -1, 4, 10 ** 30, "0", "", (), (0,), [0], {}, {0: 0}):
            found.append((0, 1, 2, 3)[:at] + (value,) + (0, 1, 2, 3)[at + 1:])
    return found + [[0, 1, 2, 3], (0, 1, 2), (0, 1, 2, 3, 0), {0: 0, 1: 1, 2: 2, 3: 3}, "0123", (1, 2, 3, 4)]


COLUMN = (120, 100, 10)


def column_faults():
    """Return the pairs (value, error) of values that are no columns."""
    found = []
    for value in JUNK:
        is_row = isinstance(value, tuple) and 1 <= len(value) <= 2
        found.append((value, errors.BadColumns(0 if is_row else None)))
        found.append(((COLUMN, value), errors.BadColumns(1)))
        found.append(((value, value), errors.BadColumns(0)))
    for value in [COLUMN, [COLUMN], {0: COLUMN}, (COLUMN,) * 3, (None,) * 3]:
        found.append((value, errors.BadColumns(None)))
    bad = [(100, 100, 10), (100, 120, 10), (1001, 100, 10), (120, -1, 10), (120, 100, 0), (120, 100, -10), (120, 100, 10001)]
    bad += [(120, 100), (120, 100, 10, 10), [120, 100, 10], {120: 100}, (True, False, 10), (1, False, 10), (120, 100, True)]
    for at in range(3):
        for value in (None, True, False, "100", "", (), (100,), [100], {}, {100: 100}):
            bad.append(COLUMN[:at] + (value,) + COLUMN[at + 1:])
    for value in bad:
        found.append(((value,), errors.BadColumns(0)))
        found.append(((COLUMN, value), errors.BadColumns(1)))
    return found


def mains_faults():
    """Return values that are no mains."""
    good = ((), (0,), (1,), (1, 2), (0, 1), (1, 2, 3), (1, 2, 3, 4), (1, 2, 3, 4, 5))
    found = [value for value in JUNK if repr(value) not in [repr(one) for one in good]]
    found += [(1, 2, 3, 4, 5, 6), (2, 1), (1, 1), (0, 5, 5), (1, 3, 2), (-1,), (1001,), (5, 1001), (-1, 5), (10 ** 30,)]
    found += [(1, True), (True, 2), (False,), (0, None), ("5",), ((5,),), (5, (6,)), [5, 6], {5: 6}, (5, [6]), (5, {})]
    return found


BAD_MATCHES = [
    (value, 1) for value in JUNK + [-1, 1, 3, 4] if not (value == 0 and not isinstance(value, bool)) and value != 2
] + [
    (0, value) for value in JUNK + [-1, 0, 2, 3, 4] if not (value == 1 and not isinstance(value, bool))
] + [(1, 0), (1, 1), (0, 0), (0, 2), (None, None), (True, True), (False, True), (0, True), (False, 1)]


FIELDS = ("index", "line", "place", "most")


class Faults:
    """Checks for test cases of `unittest`."""

    def assert_fault(self, error, function, *arguments):
        """Check that a call raises just this error, with these fields, and leaves its arguments alone."""
        before = repr(arguments)
        with self.assertRaises(errors.HeatError, msg=before) as caught:
            function(*arguments)
        raised = caught.exception
        self.assertIs(type(raised), type(error), before)
        for field in FIELDS:
            self.assertEqual(hasattr(raised, field), hasattr(error, field), before)
            value = getattr(raised, field, None)
            self.assertEqual(value, getattr(error, field, None), before)
            self.assertIs(type(value), type(getattr(error, field, None)), before)
        self.assertEqual(before, repr(arguments))

    def assert_truths(self, function, *arguments, but=()):
        """Check that no junk as the last argument is shown, but what is listed, and that answers are booleans."""
        for value in JUNK:
            shown = function(*arguments, value)
            expected = any(repr(value) == repr(one) for one in but)
            self.assertIs(shown, expected, repr((arguments, value)))
