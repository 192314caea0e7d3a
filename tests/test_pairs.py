"""pinchworks.pairs: point 13."""

import itertools
import random
import unittest

from pinchworks import errors
from pinchworks.pairs import level_block, level_pairs, shows_block, shows_pairs
from tests import oracles
from tests.faults import BAD_FLAGS, BAD_LEVELS, BOX, Faults, problem_faults

PROBLEM = (((180, 60, 2), (20, 100, 3)), (), 10)
# At the level 50, which all hot streams end at and all cold ones begin at: three of each.
MANY = (((90, 60, 2), (90, 60, 5), (90, 60, 3), (50, 70, 3), (50, 70, 2), (50, 70, 7)), (), 10)


def sides(problem, level, is_above):
    """Return dicts of rates of the first and of the second streams, by the document's words."""
    streams, _, gap = problem
    hots, colds = {}, {}
    for number, (start, goal, rate) in enumerate(streams):
        upper, lower = (start - gap, goal - gap) if start > goal else (goal, start)
        if (is_above and upper > level and not lower > level) or (not is_above and not upper < level and lower < level):
            (hots if start > goal else colds)[number] = rate
    return (hots, colds) if is_above else (colds, hots)


def all_pairs(problem, level, is_above):
    """Return all ways to pair, each first stream once."""
    firsts, seconds = sides(problem, level, is_above)
    found = []
    for chosen in itertools.permutations(sorted(seconds), len(firsts)):
        value = tuple(zip(sorted(firsts), chosen))
        if all(seconds[second] >= firsts[first] for first, second in value):
            found.append(value)
    return found


def all_blocks(problem, level, is_above):
    firsts, seconds = sides(problem, level, is_above)
    found = []
    for many in range(len(firsts) + 1):
        for some in itertools.combinations(sorted(firsts), many):
            serving = [rate for rate in seconds.values() if any(rate >= firsts[first] for first in some)]
            if len(serving) < len(some):
                found.append(some)
    return found


def cases(seed, many):
    """Return triples (problem, level, is_above), most of them with streams at the level."""
    chance = random.Random(seed)
    rows = []
    for _ in range(many):
        problem = oracles.random_problem(chance, 6, 0, span=12, rate=5, gap=3)
        levels = oracles.all_levels(problem)
        wide = tuple((max(start, goal) + 20, 20 - min(start, goal), rate) if start > goal
                     else (20 - min(start, goal), max(start, goal) + 20, rate) for start, goal, rate in problem[0])
        for is_above in (False, True):
            rows.append((problem, chance.choice(levels), is_above))
            rows.append((problem, chance.randint(-4, 13), is_above))
            rows.append(((wide, (), problem[2]), 17, is_above))
    return rows


class TestPairs(unittest.TestCase):
    def test_by_trying_all_ways(self):
        kinds = {}
        for problem, level, is_above in cases(131, 150):
            ways, blocks = all_pairs(problem, level, is_above), all_blocks(problem, level, is_above)
            self.assertNotEqual(bool(ways), bool(blocks))
            pairs, block = level_pairs(problem, level, is_above), level_block(problem, level, is_above)
            if ways:
                self.assertIn(pairs, ways, (problem, level, is_above))
                self.assertIsNone(block)
            else:
                self.assertIn(block, blocks, (problem, level, is_above))
                self.assertIsNone(pairs)
            self.assertTrue(all(type(part) is tuple for part in (*(pairs or ()), block if pairs is None else pairs)))
            self.assertIs(shows_pairs(problem, level, is_above, pairs), True)
            self.assertIs(shows_block(problem, level, is_above, block), True)
            kind = (is_above, pairs is None, len(block if pairs is None else pairs) > 1)
            kinds[kind] = kinds.get(kind, 0) + 1
        self.assertEqual(len(kinds), 8, kinds)
        self.assertGreater(min(kinds.values()), 5, kinds)

    def test_which_pairs_are_shown(self):
        shown = 0
        for problem, level, is_above in cases(132, 25):
            ways = all_pairs(problem, level, is_above)
            numbers = range(len(problem[0]))
            firsts, seconds = sides(problem, level, is_above)
            nears = [None, (), [], *ways, *[list(way) for way in ways], *[way[::-1] for way in ways]]
            for chosen in itertools.product(sorted(seconds), repeat=min(3, len(firsts))):
                nears.append(tuple(zip(sorted(firsts), chosen)))
            for first, second in itertools.product(numbers, repeat=2):
                nears += [((first, second),), *[(*way, (first, second)) for way in ways[:2]]]
            for near in nears:
                expected = near in ways if ways else near is None
                self.assertIs(shows_pairs(problem, level, is_above, near), expected, (problem, level, is_above, near))
                shown += expected
        self.assertGreater(shown, 100)

    def test_which_blocks_are_shown(self):
        shown = 0
        for problem, level, is_above in cases(133, 25):
            blocks = all_blocks(problem, level, is_above)
            numbers = range(-1, len(problem[0]) + 1)
            nears = [None, (), [], *[list(block) for block in blocks]]
            nears += [value for many in range(4) for value in itertools.product(numbers, repeat=many)]
            for near in nears:
                expected = near in blocks if blocks else near is None
                self.assertIs(shows_block(problem, level, is_above, near), expected, (problem, level, is_above, near))
                shown += expected
        self.assertGreater(shown, 50)


class TestSides(unittest.TestCase):
    def check(self, problem, level, is_above, pairs, block):
        self.assertEqual(level_pairs(problem, level, is_above), pairs)
        self.assertEqual(level_block(problem, level, is_above), block)

    def test_ends_of_streams(self):
        hot, cold = (((90, 60, 2),), (), 10), (((50, 80, 3),), (), 10)
        for level, above, below in ((49, (), ()), (50, (0,), ()), (51, (0,), ()), (79, (0,), ()), (80, (), ()), (81, (), ())):
            self.check(hot, level, True, None if above else (), above or None)
            self.check(hot, level, False, (), None)
        for level, below in ((49, ()), (50, ()), (51, (0,)), (79, (0,)), (80, (0,)), (81, ())):
            self.check(cold, level, False, None if below else (), below or None)
            self.check(cold, level, True, (), None)

    def test_ends_of_second_streams(self):
        # The hot stream goes on on both sides of all these levels, the cold one only from 50 to 80.
        problem = (((500, 0, 2), (50, 80, 3)), (), 10)
        for level, has_second in ((49, False), (50, True), (79, True), (80, False)):
            self.check(problem, level, True, ((0, 1),) if has_second else None, None if has_second else (0,))
        problem = (((90, 60, 4), (0, 500, 3)), (), 10)
        for level, has_second in ((50, False), (51, True), (80, True), (81, False)):
            self.check(problem, level, False, ((1, 0),) if has_second else None, None if has_second else (1,))

    def test_equal_rates(self):
        problem = (((90, 60, 3), (50, 80, 3)), (), 10)
        self.check(problem, 50, True, ((0, 1),), None)
        self.check((((90, 60, 4), (50, 80, 3)), (), 10), 50, True, None, (0,))
        self.check(problem, 80, False, ((1, 0),), None)
        self.check((((90, 60, 3), (50, 80, 4)), (), 10), 80, False, None, (1,))

    def test_many(self):
        self.check(MANY, 50, True, ((0, 4), (1, 5), (2, 3)), None)
        self.check(MANY, 50, False, (), None)
        self.check((MANY[0][:5], (), 10), 50, True, None, level_block((MANY[0][:5], (), 10), 50, True))
        self.assertEqual(all_blocks((MANY[0][:5], (), 10), 50, True), [(1,), (1, 2), (0, 1, 2)])
        for value, expected in (((1,), True), ((1, 2), True), ((0, 1, 2), True), ((0, 1), False), ((2, 1), False),
                                ((1, 1), False), ((0,), False), ((), False), (None, False), ((0, 0, 1, 2), False)):
            self.assertIs(shows_block((MANY[0][:5], (), 10), 50, True, value), expected, value)

    def test_no_streams_on_either_side(self):
        for level in (10 ** 30, 1000, -101, -10 ** 30):
            for is_above in (True, False):
                self.check(MANY, level, is_above, (), None)
                self.assertIs(shows_pairs(MANY, level, is_above, ()), True)
                self.assertIs(shows_pairs(MANY, level, is_above, None), False)
                self.assertIs(shows_block(MANY, level, is_above, None), True)
                self.assertIs(shows_block(MANY, level, is_above, ()), False)

    def test_a_gap_of_0_and_of_100(self):
        streams = ((500, 100, 2), (100, 500, 3))
        self.check((streams, (), 0), 100, True, ((0, 1),), None)
        self.check((streams, (), 100), 100, True, ((0, 1),), None)
        self.check((streams, (), 100), 0, True, None, (0,))
        self.check((streams, (), 0), 500, False, None, (1,))
        self.check((streams, (), 100), 400, False, None, (1,))

    def test_largest(self):
        streams = ((1000, 0, 100),) * 3 + ((0, 1000, 100),) * 3
        self.assertIn(level_pairs((streams, (), 0), 500, True), all_pairs((streams, (), 0), 500, True))
        streams = ((1000, 0, 100),) * 3 + ((0, 1000, 99),) * 3
        self.check((streams, (), 0), 500, True, None, level_block((streams, (), 0), 500, True))
        self.assertIn(level_pairs((streams, (), 0), 500, False), all_pairs((streams, (), 0), 500, False))
        self.assertIs(shows_block((streams, (), 0), 500, True, (0, 1, 2)), True)
        self.assertIs(shows_block((streams, (), 0), 500, True, (1,)), True)


class TestFaults(Faults, unittest.TestCase):
    def test_problems(self):
        for value, error in problem_faults():
            for function in (level_pairs, level_block):
                self.assert_fault(error, function, value, 50, True)
                self.assert_fault(error, function, value, None, None)
            for function in (shows_pairs, shows_block):
                self.assert_fault(error, function, value, None, None, None)

    def test_boxes(self):
        for problem in ((PROBLEM[0], (BOX,), 10), ((), (BOX,), 10)):
            for function in (level_pairs, level_block):
                self.assert_fault(errors.HasBoxes(), function, problem, 50, True)
                self.assert_fault(errors.HasBoxes(), function, problem, None, None)
            for function in (shows_pairs, shows_block):
                self.assert_fault(errors.HasBoxes(), function, problem, "", 1, ())

    def test_levels(self):
        for value in BAD_LEVELS:
            for function in (level_pairs, level_block):
                self.assert_fault(errors.BadLevel(), function, PROBLEM, value, True)
                self.assert_fault(errors.BadLevel(), function, PROBLEM, value, None)
            for function in (shows_pairs, shows_block):
                self.assert_fault(errors.BadLevel(), function, PROBLEM, value, 0, None)

    def test_flags(self):
        for value in BAD_FLAGS:
            for function in (level_pairs, level_block):
                self.assert_fault(errors.BadFlag(), function, PROBLEM, 50, value)
            for function in (shows_pairs, shows_block):
                self.assert_fault(errors.BadFlag(), function, PROBLEM, 50, value, None)

    def test_last_arguments(self):
        self.assert_truths(shows_pairs, PROBLEM, 60, True, but=(((0, 1),),))
        self.assert_truths(shows_block, PROBLEM, 60, True, but=(None,))
        self.assert_truths(shows_pairs, PROBLEM, 60, False, but=(None,))
        self.assert_truths(shows_block, PROBLEM, 60, False, but=((1,),))
        self.assert_truths(shows_pairs, PROBLEM, 900, True, but=((),))
        self.assert_truths(shows_block, PROBLEM, 900, True, but=(None,))
        for value in [((0, True),), ((False, 1),), ([0, 1],), ((0, 1, 1),), ((0,),), ((0, 1), None), ((0, "1"),), ((0, []),)]:
            self.assertIs(shows_pairs(PROBLEM, 60, True, value), False, value)
        for value in [(True,), ("1",), (None,), ((1,),), ({},), ([1],), [1], (1, 1), (0, 1), (1, True)]:
            self.assertIs(shows_block(PROBLEM, 60, False, value), False, value)


if __name__ == "__main__":
    unittest.main()
