"""pinchworks.networks: point 8."""

import random
import unittest
from fractions import Fraction

from pinchworks import errors
from pinchworks.cascades import least_outside
from pinchworks.networks import flaw, outside_of, temperatures
from tests import oracles
from tests.faults import BOX, NETWORKED, Faults, network_faults, problem_faults

PROBLEM = (((180, 60, 2), (20, 100, 3)), (), 10)
ALL = (temperatures, flaw, outside_of)


def random_network(chance, problem, many, load=400):
    """Return a network, perhaps an empty one."""
    hots = [-1] + [number for number, (start, goal, _) in enumerate(problem[0]) if start > goal]
    colds = [-1] + [number for number, (start, goal, _) in enumerate(problem[0]) if start < goal]
    rows = []
    for _ in range(chance.randint(0, many)):
        hot, cold = chance.choice(hots), chance.choice(colds)
        if (hot, cold) != (-1, -1):
            rows.append((hot, cold, chance.randint(1, load)))
    return tuple(rows)


def mended(problem, network):
    """Return the network with loads from outside more or loads cut, so that all streams come to their goals."""
    left = [rate * abs(start - goal) for start, goal, rate in problem[0]]
    rows = []
    for hot, cold, load in network:
        load = min([load] + [left[number] for number in (hot, cold) if number != -1])
        if load:
            rows.append((hot, cold, load))
            for number in (hot, cold):
                if number != -1:
                    left[number] -= load
    for number, (start, goal, _) in enumerate(problem[0]):
        if left[number]:
            if start > goal:
                rows.append((number, -1, left[number]))
            else:
                rows.insert(0, (-1, number, left[number]))
    return tuple(rows)


def cases(seed, many):
    chance = random.Random(seed)
    rows = []
    while len(rows) < many:
        problem = oracles.random_problem(chance, 6, 0)
        network = random_network(chance, problem, 6)
        rows.append((problem, network))
        rows.append((problem, mended(problem, network)))
    return rows


def is_same(value, fraction):
    """Return whether a value is the ratio of a fraction, or None for None."""
    if fraction is None:
        return value is None
    return value == (fraction.numerator, fraction.denominator) and [type(part) for part in value] == [int, int]


class TestTemperatures(unittest.TestCase):
    def test_by_fractions(self):
        for problem, network in cases(41, 300):
            found = temperatures(problem, network)
            expected = oracles.temperatures(problem, network)
            self.assertEqual((type(found), len(found)), (tuple, len(network)))
            for row, fractions in zip(found, expected):
                self.assertEqual((type(row), len(row)), (tuple, 4))
                self.assertTrue(all(map(is_same, row, fractions)), (problem, network, found))

    def test_orders(self):
        problem = (((180, 60, 2), (20, 100, 3)), (), 0)
        network = ((0, 1, 30), (0, 1, 60))
        # The hot stream comes to the first exchanger first, the cold one to the second one.
        self.assertEqual(temperatures(problem, network), (
            ((180, 1), (165, 1), (40, 1), (50, 1)),
            ((165, 1), (135, 1), (20, 1), (40, 1)),
        ))

    def test_outside(self):
        self.assertEqual(temperatures(PROBLEM, ((-1, 1, 1), (0, -1, 1))), (
            (None, None, (20, 1), (61, 3)),
            ((180, 1), (359, 2), None, None),
        ))

    def test_past_the_goal_and_below_zero(self):
        self.assertEqual(temperatures(PROBLEM, ((0, -1, 360), (0, -1, 1))), (
            ((180, 1), (0, 1), None, None),
            ((0, 1), (-1, 2), None, None),
        ))
        self.assertEqual(temperatures(PROBLEM, ((0, 1, 100000),)), (
            ((180, 1), (-49820, 1), (20, 1), (100060, 3)),
        ))

    def test_empty(self):
        self.assertEqual(temperatures(PROBLEM, ()), ())
        self.assertEqual(outside_of(PROBLEM, ()), (0, 0))
        self.assertEqual(flaw(PROBLEM, ()), ("goal", 0))


class TestFlaws(unittest.TestCase):
    def test_by_definition(self):
        kinds = {}
        for problem, network in cases(42, 400):
            expected = oracles.flaw(problem, network)
            self.assertEqual(flaw(problem, network), expected, (problem, network))
            kind = None if expected is None else expected[0]
            kinds[kind] = kinds.get(kind, 0) + 1
            if expected is None:
                self.assertGreaterEqual(outside_of(problem, network)[0], least_outside(problem)[0])
        self.assertGreater(min(kinds.values()), 20, kinds)
        self.assertEqual(len(kinds), 3)

    def test_goals_in_order(self):
        self.assertEqual(flaw(PROBLEM, ((0, -1, 240),)), ("goal", 1))
        self.assertEqual(flaw(PROBLEM, ((-1, 1, 240),)), ("goal", 0))
        self.assertEqual(flaw(PROBLEM, ((0, 1, 239), (0, -1, 1))), ("goal", 1))
        self.assertEqual(flaw(PROBLEM, ((0, 1, 241),)), ("goal", 0))
        self.assertIsNone(flaw(PROBLEM, ((-1, 1, 1), (0, 1, 239), (0, -1, 1))))
        self.assertIsNone(flaw(PROBLEM, ((0, -1, 1), (0, 1, 239), (-1, 1, 1))))

    def test_differences_that_just_do(self):
        # The hot stream goes from 100 to 50, the cold one from 40 to 90.
        streams = ((100, 50, 1), (40, 90, 1))
        self.assertIsNone(flaw((streams, (), 10), ((0, 1, 50),)))
        self.assertEqual(flaw((streams, (), 11), ((0, 1, 50),)), ("gap", 0))
        self.assertIsNone(flaw(((((100, 50, 1), (50, 100, 1))), (), 0), ((0, 1, 50),)))

    def test_both_ends_of_an_exchanger(self):
        only_hot_end = ((100, 50, 1), (30, 95, 1))
        self.assertEqual(flaw((only_hot_end, (), 10), ((-1, 1, 15), (0, 1, 50))), None)
        self.assertEqual(flaw((only_hot_end, (), 10), ((0, 1, 50), (-1, 1, 15))), ("gap", 0))
        only_cold_end = ((100, 45, 1), (40, 80, 1))
        self.assertEqual(flaw((only_cold_end, (), 10), ((0, 1, 40), (0, -1, 15))), None)
        self.assertEqual(flaw((only_cold_end, (), 10), ((0, -1, 15), (0, 1, 40))), ("gap", 1))

    def test_the_least_index(self):
        streams = ((100, 50, 1), (20, 70, 1), (100, 50, 1), (80, 130, 1))
        self.assertEqual(flaw((streams, (), 10), ((0, 1, 50), (2, 3, 50))), ("gap", 1))
        self.assertEqual(flaw((streams, (), 10), ((0, 3, 50), (2, 1, 50))), ("gap", 0))
        self.assertEqual(flaw((streams, (), 100), ((0, 1, 50), (2, 3, 50))), ("gap", 0))

    def test_fractions_near_the_gap(self):
        streams = ((100, 50, 7), (40, 80, 3))
        for load in range(1, 121):
            network = ((0, -1, 350 - load), (0, 1, load), (-1, 1, 120 - load))
            network = tuple(row for row in network if row[2])
            expected = oracles.flaw((streams, (), 10), network)
            self.assertEqual(flaw((streams, (), 10), network), expected, load)

    def test_outside_of(self):
        self.assertEqual(outside_of(PROBLEM, ((-1, 1, 7), (0, 1, 100), (-1, 1, 100000), (0, -1, 5), (0, -1, 1))), (100007, 6))
        self.assertEqual(outside_of(PROBLEM, ((0, 1, 100),)), (0, 0))
        self.assertEqual(outside_of(PROBLEM, ((0, -1, 3),)), (0, 3))


class TestFaults(Faults, unittest.TestCase):
    def test_problems(self):
        for value, error in problem_faults():
            for function in ALL:
                self.assert_fault(error, function, value, ())
                self.assert_fault(error, function, value, None)

    def test_boxes(self):
        for function in ALL:
            self.assert_fault(errors.HasBoxes(), function, (PROBLEM[0], (BOX,), 10), ())
            self.assert_fault(errors.HasBoxes(), function, ((), (BOX,), 10), None)
            self.assert_fault(errors.BadGap(), function, (PROBLEM[0], (BOX,), True), None)
            self.assert_fault(errors.BadBoxes(1), function, (PROBLEM[0], (BOX, 1), True), None)

    def test_networks(self):
        for value, error in network_faults():
            for function in ALL:
                self.assert_fault(error, function, NETWORKED, value)

    def test_limits(self):
        network = ((0, 1, 100000),) * 12
        self.assertEqual(len(temperatures(PROBLEM, network)), 12)
        self.assertEqual(outside_of(PROBLEM, ((-1, 1, 100000),) * 12), (1200000, 0))
        self.assert_fault(errors.BadNetwork(None), temperatures, PROBLEM, network + ((0, 1, 1),))


class TestRatios(unittest.TestCase):
    def test_no_common_divisors(self):
        found = temperatures((((180, 60, 6), (20, 100, 9)), (), 10), ((0, 1, 3),))
        self.assertEqual(found, (((180, 1), (359, 2), (20, 1), (61, 3)),))
        self.assertEqual(Fraction(359, 2), 180 - Fraction(3, 6))


if __name__ == "__main__":
    unittest.main()
