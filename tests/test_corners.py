"""pinchworks.structures: point 22."""

import itertools
import random
import unittest
from fractions import Fraction

from pinchworks import errors
from pinchworks.structures import best_loads, weak_corner
from tests import oracles
from tests.faults import BOX, JUNK, NETWORKED, Faults, problem_faults, structure_faults, swing_faults
from tests.test_structures import loads_heating, random_structure

PROBLEM = (((180, 60, 2), (20, 100, 3)), (), 10)
SWUNG = (((180, 60, 2), (20, 100, 3), (150, 148, 1)), (), 10)


def random_swings(chance, streams, most=50):
    """Return swings, often small ones."""
    most = chance.choice((0, 1, 3, most))
    return tuple(chance.randint(0, min(most, abs(start - goal) - 1)) for start, goal, _ in streams)


def without_coolers(chance, streams):
    """Return a structure that heats all cold streams and cools few hot ones: they must give off all to these."""
    hots = [number for number, (start, goal, _) in enumerate(streams) if start > goal]
    colds = [number for number in range(len(streams)) if number not in hots]
    inner = [(hot, cold) for hot in hots for cold in colds]
    chance.shuffle(inner)
    return tuple([(-1, cold) for cold in colds] + inner[:4] + [(hot, -1) for hot in hots[2:]])


def corners(streams, swings):
    """Return all tuples of starts at ends of their ranges, ascending."""
    return sorted(set(itertools.product(*[(start - swing, start + swing) for (start, _, _), swing in zip(streams, swings)])))


def moved(problem, starts, degrees=0):
    """Return a problem with other starts, all temperatures greater by so many degrees."""
    streams, _, gap = problem
    found = [(start + degrees, goal + degrees, rate) for start, (_, goal, rate) in zip(starts, streams)]
    return (tuple(found), (), gap)


class TestCorners(unittest.TestCase):
    def check(self, problem, structure, swings):
        """Check against the best loads at all corners; 50 degrees more bring no temperature out of range."""
        weak = [starts for starts in corners(problem[0], swings)
                if best_loads(moved(problem, starts, 50), structure) is None]
        expected = weak[0] if weak else None
        found = weak_corner(problem, structure, swings)
        self.assertEqual(found, expected, (problem, structure, swings))
        return found

    def test_by_trying_all_corners(self):
        chance = random.Random(221)
        counts = {None: 0, "first": 0, "other": 0}
        for _ in range(240):
            for streams, span, gap in ((4, 120, 20), (2, 300, 5), (6, 120, 0), (4, 900, 0)):
                problem = oracles.random_problem(chance, streams, 0, span=span, gap=gap)
                structure = random_structure(chance, problem[0], 10)
                if chance.random() < 0.6:
                    structure = without_coolers(chance, problem[0])
                swings = random_swings(chance, problem[0])
                found = self.check(problem, structure, swings)
                first = corners(problem[0], swings)[0]
                counts[None if found is None else "first" if found == first else "other"] += 1
        self.assertGreater(min(counts.values()), 15, counts)

    def test_by_trying_all_loads(self):
        chance = random.Random(222)
        weak = 0
        for _ in range(150):
            problem = oracles.random_problem(chance, 2, 0, span=6, rate=1, gap=2)
            structure = random_structure(chance, problem[0], 3)
            swings = random_swings(chance, problem[0], 2)
            expected = [starts for starts in corners(problem[0], swings)
                        if not self.has_loads(moved(problem, starts), structure)]
            self.assertEqual(weak_corner(problem, structure, swings), expected[0] if expected else None)
            weak += bool(expected)
        self.assertGreater(weak, 10)

    def has_loads(self, problem, structure):
        """Return whether a structure has loads at half degrees."""
        highest = 2 * max(abs(start - goal) for start, goal, _ in problem[0])
        choices = itertools.product([Fraction(part, 2) for part in range(highest + 1)], repeat=len(structure))
        return any(loads_heating(problem, structure, loads) is not None for loads in choices)

    def test_swings_of_0(self):
        chance = random.Random(223)
        for _ in range(60):
            problem = oracles.random_problem(chance, 4, 0)
            structure = random_structure(chance, problem[0], 8)
            starts = tuple(start for start, _, _ in problem[0])
            expected = None if best_loads(problem, structure) else starts
            self.assertEqual(weak_corner(problem, structure, (0,) * len(starts)), expected)

    def test_no_structure(self):
        self.assertEqual(weak_corner(PROBLEM, (), (0, 0)), (180, 20))
        self.assertEqual(weak_corner(PROBLEM, (), (3, 5)), (177, 15))
        self.assertEqual(weak_corner(PROBLEM, ((0, 1),), (1, 0)), (179, 20))
        self.assertEqual(weak_corner(PROBLEM, ((0, 1),), (0, 1)), (180, 19))
        self.assertIsNone(weak_corner(PROBLEM, ((0, 1),), (0, 0)))
        self.assertIsNone(weak_corner(PROBLEM, ((-1, 1), (0, -1)), (50, 50)))

    def test_the_smallest_corner(self):
        # Only a hot start at 201 gives off more than the cold stream takes in.
        problem, structure = (((200, 100, 1), (0, 100, 1)), (), 0), ((-1, 1), (0, 1))
        self.assertIsNone(weak_corner(problem, structure, (0, 0)))
        self.assertEqual(weak_corner(problem, structure, (1, 0)), (201, 0))
        self.assertEqual(weak_corner(problem, structure, (0, 1)), (200, 1))
        self.assertEqual(weak_corner(problem, structure, (1, 1)), (201, 1))
        self.assertEqual(weak_corner(problem, structure, (2, 1)), (202, -1))

    def test_starts_below_0_and_above_1000(self):
        problem, structure = (((1000, 500, 1), (0, 500, 1)), (), 100), ((0, 1),)
        self.assertIsNone(weak_corner(problem, structure, (0, 0)))
        self.assertEqual(weak_corner(problem, structure, (50, 0)), (950, 0))
        self.assertEqual(weak_corner(problem, structure, (50, 50)), (950, -50))
        both = ((-1, 1), (0, 1), (0, -1))
        self.assertIsNone(weak_corner(problem, both, (50, 50)))
        # At the cold start -50 and the hot start 1050 each one has 550 to give or to take.
        alone = (((1000, 500, 1), (0, 500, 1)), (), 0)
        self.assertIsNone(weak_corner(alone, both, (50, 50)))
        self.assertEqual(weak_corner(alone, ((0, 1), (0, -1)), (50, 0)), (950, 0))
        self.assertEqual(weak_corner(alone, ((0, 1), (0, -1)), (0, 50)), (1000, -50))
        self.assertEqual(weak_corner(alone, ((0, 1), (-1, 1)), (50, 0)), (1050, 0))
        self.assertEqual(weak_corner(alone, ((0, 1), (-1, 1)), (0, 50)), (1000, 50))
        self.assertEqual(weak_corner((((0, 100, 1),), (), 0), (), (50,)), (-50,))
        self.assertEqual(weak_corner((((1000, 900, 1),), (), 0), (), (50,)), (950,))

    def test_differences_that_fall_with_the_start(self):
        # With the hot start at 109 the first exchanger's cold side comes out too warm.
        problem, structure = (((120, 60, 1), (50, 100, 1)), (), 10), ((-1, 1), (0, 1), (0, -1))
        self.assertIsNone(weak_corner(problem, structure, (50, 0)))
        structure = ((0, 1), (0, -1))
        self.assertIsNone(weak_corner(problem, structure, (10, 0)))
        self.assertEqual(weak_corner(problem, structure, (11, 0)), (109, 50))
        self.assertEqual(weak_corner(problem, structure, (10, 1)), (110, 49))

    def test_swings_just_below_the_difference(self):
        problem = (((3, 2, 1), (10, 12, 1)), (), 0)
        structure = ((-1, 1), (0, -1))
        for swings in ((0, 0), (0, 1)):
            self.assertIsNone(weak_corner(problem, structure, swings))
            self.assertEqual(weak_corner(problem, (), swings), (3, 10 - swings[1]))

    def test_largest(self):
        streams = ((1000, 0, 100), (0, 1000, 99), (1000, 0, 97), (0, 1000, 95), (1000, 500, 1), (0, 500, 1))
        structure = ((-1, 1), (-1, 3), (-1, 5), (0, 1), (2, 3), (4, 5), (0, 3), (0, -1), (2, -1), (4, -1))
        self.assertEqual(weak_corner((streams, (), 100), structure[1:], (50,) * 6)[0], 950)
        # All corners have loads: these pairs are ahead of all others, so that a load of 0 keeps the gap.
        structure = ((-1, 1), (-1, 3), (-1, 5), (0, -1), (2, -1), (4, -1))
        self.assertIsNone(weak_corner((streams, (), 100), structure, (50,) * 6))


class TestFaults(Faults, unittest.TestCase):
    def test_problems(self):
        faults = problem_faults() + [((PROBLEM[0], (BOX,), 10), errors.HasBoxes())]
        for value, error in faults:
            self.assert_fault(error, weak_corner, value, ((0, 1),), (0, 0))
            self.assert_fault(error, weak_corner, value, None, None)

    def test_structures(self):
        for value, error in structure_faults():
            self.assert_fault(error, weak_corner, NETWORKED, value, (0, 0, 0))
            self.assert_fault(error, weak_corner, NETWORKED, value, None)

    def test_swings(self):
        for value in swing_faults():
            self.assert_fault(errors.BadSwings(), weak_corner, SWUNG, ((0, 1),), value)
            self.assert_fault(errors.BadSwings(), weak_corner, SWUNG, (), value)

    def test_limits_of_swings(self):
        for swings in ((0, 0, 0), (50, 50, 1), (1, 2, 0)):
            self.assertEqual(weak_corner(SWUNG, (), swings), tuple(
                start - swing for (start, _, _), swing in zip(SWUNG[0], swings)
            ))
        for swings in ((51, 0, 0), (0, 51, 0), (0, 0, 2), (-1, 0, 0)):
            self.assert_fault(errors.BadSwings(), weak_corner, SWUNG, (), swings)
        small = (((10, 11, 1), (50, 0, 1), (0, 51, 1)), (), 0)
        self.assertEqual(weak_corner(small, (), (0, 49, 50)), (10, 1, -50))
        for swings in ((1, 49, 50), (0, 50, 50), (0, 49, 51)):
            self.assert_fault(errors.BadSwings(), weak_corner, small, (), swings)

    def test_lists_of_swings(self):
        for value in JUNK:
            if value != (0, 1) and value != (1, 2) or not isinstance(value, tuple):
                self.assert_fault(errors.BadSwings(), weak_corner, PROBLEM, ((0, 1),), value)


if __name__ == "__main__":
    unittest.main()
