"""pinchworks.crossings: point 28."""

import random
import unittest
from fractions import Fraction

from pinchworks import errors
from pinchworks.cascades import given_above, least_outside, pinches
from pinchworks.crossings import crossing
from pinchworks.networks import flaw, outside_of
from tests import oracles
from tests.faults import BAD_LEVELS, BOX, NETWORKED, Faults, network_faults, problem_faults
from tests.test_water import is_ratio

STREAMS = ((180, 60, 2), (20, 100, 3))
PROBLEM = (STREAMS, (), 10)


def random_network(chance, problem, most, load):
    """Return a network of any loads, sound or not."""
    hots = [number for number, (start, goal, _) in enumerate(problem[0]) if start > goal]
    colds = [number for number in range(len(problem[0])) if number not in hots]
    found = []
    for _ in range(chance.randint(0, most)):
        hot, cold = chance.choice(hots + hots + [-1]), chance.choice(colds + colds + [-1])
        if (hot, cold) != (-1, -1):
            found.append((hot, cold, chance.randint(1, load)))
    return tuple(found)


def filled_up(problem, network):
    """Return a network in which exchangers with the outside take each stream to its goal; None if one is beyond it."""
    found = list(network)
    for number, (start, goal, rate) in enumerate(problem[0]):
        rest = rate * abs(start - goal) - sum(load for hot, cold, load in network if number in (hot, cold))
        if rest < 0:
            return None
        if rest and start > goal:
            found.append((number, -1, rest))
        elif rest:
            found.insert(0, (-1, number, rest))
    return tuple(found)


def over(upper, lower, degrees):
    """Return how much of what lies between two temperatures lies over some degrees."""
    return max(upper, degrees) - max(lower, degrees)


def crossing_by_temperatures(problem, network, level):
    sums = [Fraction(0), Fraction(0), Fraction(0)]
    for (hot, cold, load), row in zip(network, oracles.temperatures(problem, network)):
        given = None if hot == -1 else problem[0][hot][2] * over(row[0], row[1], level + problem[2])
        taken = None if cold == -1 else problem[0][cold][2] * over(row[3], row[2], level)
        if hot == -1:
            sums[1] += load - taken
        elif cold == -1:
            sums[2] += given
        else:
            sums[0] += given - taken
    return tuple((one.numerator, one.denominator) for one in sums)


class TestCrossing(unittest.TestCase):
    def test_by_temperatures(self):
        chance = random.Random(281)
        for _ in range(150):
            problem = oracles.random_problem(chance, 6, 0, gap=chance.choice((0, 10, 100)))
            network = random_network(chance, problem, 12, chance.choice((5, 200, 900)))
            for level in (chance.randint(-100, 230), chance.randint(0, 150), -10 ** 9, 10 ** 9, problem[0][0][0]):
                found = crossing(problem, network, level)
                self.assertEqual(found, crossing_by_temperatures(problem, network, level), (problem, network, level))
                self.assertTrue(all(is_ratio(part) for part in found))

    def test_heat_from_outside(self):
        # If each stream comes to its goal, all heat from outside is what is lacking above, plus the triple's sum.
        chance = random.Random(282)
        seen = 0
        for _ in range(200):
            problem = oracles.random_problem(chance, 6, 0)
            network = filled_up(problem, random_network(chance, problem, 5, 200))
            if network is None or len(network) > 12:
                continue
            seen += 1
            for level in [chance.randint(-20, 210) for _ in range(4)] + [10 ** 9, -10 ** 9] + list(pinches(problem)):
                given, taken = given_above(problem, level)
                total = sum(Fraction(*part) for part in crossing(problem, network, level))
                self.assertEqual(outside_of(problem, network)[0], taken - given + total, (problem, network, level))
        self.assertGreater(seen, 50)

    def test_sound_networks(self):
        chance = random.Random(283)
        seen = 0
        for _ in range(300):
            problem = oracles.random_problem(chance, 4, 0)
            network = filled_up(problem, random_network(chance, problem, 3, 150))
            if network is None or flaw(problem, network) is not None:
                continue
            brought, carried = outside_of(problem, network)
            heating, cooling = least_outside(problem)
            self.assertGreaterEqual(brought, heating)
            self.assertEqual(brought - heating, carried - cooling)
            for pinch in pinches(problem):
                parts = [Fraction(*part) for part in crossing(problem, network, pinch)]
                # Nothing of a sound network goes up, and at a pinch all heat too much from outside crosses it.
                self.assertGreaterEqual(min(parts), 0, (problem, network, pinch))
                self.assertEqual(sum(parts), brought - heating, (problem, network, pinch))
                seen += sum(parts) > 0
        self.assertGreater(seen, 30)

    def test_of_a_problem(self):
        # The hot stream's levels are 170 to 50, the cold one's 100 to 20.
        for level, expected in (
            (170, (0, 0, 0)), (169, (2, 0, 0)), (100, (140, 0, 0)), (99, (139, 0, 0)), (60, (100, 0, 0)), (50, (90, 0, 0)),
            (49, (87, 0, 0)), (21, (3, 0, 0)), (20, (0, 0, 0)), (0, (0, 0, 0)), (-500, (0, 0, 0)), (2000, (0, 0, 0)),
        ):
            found = crossing(PROBLEM, ((0, 1, 240),), level)
            self.assertEqual(found, tuple((part, 1) for part in expected), level)
        for level, expected in (
            (170, (0, 240, 0)), (169, (0, 240, 2)), (100, (0, 240, 140)), (99, (0, 237, 142)), (50, (0, 90, 240)),
            (20, (0, 0, 240)), (-500, (0, 0, 240)), (2000, (0, 240, 0)),
        ):
            found = crossing(PROBLEM, ((-1, 1, 240), (0, -1, 240)), level)
            self.assertEqual(found, tuple((part, 1) for part in expected), level)

    def test_heat_that_goes_up(self):
        # Not sound: the cold stream gets warmer than the hot one.
        problem = (((50, 40, 1), (60, 70, 1)), (), 0)
        self.assertEqual(crossing(problem, ((0, 1, 10),), 55), ((-10, 1), (0, 1), (0, 1)))
        self.assertEqual(crossing(problem, ((0, 1, 10),), 65), ((-5, 1), (0, 1), (0, 1)))
        self.assertEqual(crossing(problem, ((0, 1, 10),), 45), ((-5, 1), (0, 1), (0, 1)))

    def test_loads_beyond_the_goals(self):
        # A third of a degree each: the streams go past their goals and past 0 and 1000.
        problem = (((10, 5, 3), (990, 995, 3)), (), 0)
        self.assertEqual(crossing(problem, ((0, 1, 100),), 1000), ((-70, 1), (0, 1), (0, 1)))
        self.assertEqual(crossing(problem, ((0, 1, 100),), -20), ((90 - 100, 1), (0, 1), (0, 1)))
        self.assertEqual(crossing(problem, ((0, -1, 100), (-1, 1, 100)), -20), ((0, 1), (0, 1), (90, 1)))
        self.assertEqual(crossing(problem, ((0, -1, 100), (-1, 1, 100)), 1000), ((0, 1), (30, 1), (0, 1)))

    def test_temperatures_that_are_no_integers(self):
        # The hot stream goes from 100 to 100 - 40 / 3, and on to 100 - 50 / 3.
        problem = (((100, 80, 3), (0, 20, 7)), (), 5)
        network = ((0, 1, 40), (0, -1, 10))
        self.assertEqual(crossing(problem, network, 85), ((30, 1), (0, 1), (0, 1)))
        self.assertEqual(crossing(problem, network, 80), ((40, 1), (0, 1), (5, 1)))
        self.assertEqual(crossing(problem, network, 3), ((21, 1), (0, 1), (10, 1)))
        problem = (((100, 80, 3), (0, 20, 7)), (), 0)
        self.assertEqual(crossing(problem, ((0, -1, 10), (0, 1, 1), (-1, 1, 1)), 0), ((0, 1), (0, 1), (10, 1)))

    def test_no_exchangers(self):
        self.assertEqual(crossing(PROBLEM, (), 50), ((0, 1), (0, 1), (0, 1)))

    def test_largest(self):
        problem = (((1000, 0, 100), (0, 1000, 100)), (), 100)
        network = ((-1, 1, 10000), (0, 1, 90000), (0, -1, 10000))
        self.assertIsNone(flaw(problem, network))
        self.assertEqual(crossing(problem, network, 900), ((0, 1), (0, 1), (0, 1)))
        self.assertEqual(crossing(problem, ((0, 1, 100000),) * 12, 0)[0], (90000 - 1200000, 1))


class TestFaults(Faults, unittest.TestCase):
    def test_problems(self):
        faults = problem_faults() + [((STREAMS, (BOX,), 10), errors.HasBoxes()), (((), (BOX,), 10), errors.HasBoxes())]
        for value, error in faults:
            self.assert_fault(error, crossing, value, ((0, 1, 60),), 50)
            self.assert_fault(error, crossing, value, None, None)

    def test_networks(self):
        for value, error in network_faults():
            self.assert_fault(error, crossing, NETWORKED, value, 50)
            self.assert_fault(error, crossing, NETWORKED, value, None)

    def test_levels(self):
        for value in BAD_LEVELS:
            self.assert_fault(errors.BadLevel(), crossing, PROBLEM, ((0, 1, 60),), value)
            self.assert_fault(errors.BadLevel(), crossing, PROBLEM, (), value)


if __name__ == "__main__":
    unittest.main()
