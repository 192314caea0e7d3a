"""pinchworks.curves: point 11."""

import random
import unittest
from fractions import Fraction

from pinchworks import errors
from pinchworks.cascades import least_outside
from pinchworks.curves import approach, curve
from tests import oracles
from tests.faults import BAD_FLAGS, JUNK, Faults, problem_faults

PROBLEM = (((180, 60, 2), (20, 100, 3)), (), 10)
LARGEST = (((1000, 0, 100),) * 3 + ((0, 1000, 100),) * 3, ((1000, 10000), (0, -10000), (1000, -10000), (0, 10000)), 100)


def problems(seed, many):
    chance = random.Random(seed)
    rows = [PROBLEM]
    for _ in range(many):
        rows.append(oracles.random_problem(chance, 6, 4))
        rows.append(oracles.random_problem(chance, 3, 3, span=8, rate=3, heat=9, gap=3))
        rows.append(oracles.random_problem(chance, 4, 0, span=40))
        rows.append(oracles.random_problem(chance, 0, 4, span=6, heat=5))
    return rows


def bodies(problem, gives):
    """Return the streams and the boxes of one side."""
    streams = [stream for stream in problem[0] if (stream[0] > stream[1]) == gives]
    return streams, [box for box in problem[1] if (box[1] > 0) == gives]


def heat_below(problem, gives, degrees, with_boxes):
    """Return the heat of one side up to a temperature, its boxes at the temperature itself counted or not."""
    streams, boxes = bodies(problem, gives)
    heat = sum(rate * max(0, min(degrees, max(start, goal)) - min(start, goal)) for start, goal, rate in streams)
    return heat + sum(abs(heat) for at, heat in boxes if at < degrees or (with_boxes and at == degrees))


def corners(problem, gives):
    streams, boxes = bodies(problem, gives)
    ends = {degrees for stream in streams for degrees in stream[:2]} | {at for at, _ in boxes}
    found = set()
    for degrees in ends:
        found |= {(heat_below(problem, gives, degrees, with_boxes), degrees) for with_boxes in (False, True)}
    return tuple(sorted(found))


def sides(problem, gives):
    """Return two dicts of temperatures by heats, to the left and to the right of each integer heat."""
    left, right = {}, {}
    for degrees in range(-1, 1001):
        low, middle = (heat_below(problem, gives, degrees, flag) for flag in (False, True))
        high = heat_below(problem, gives, degrees + 1, False)
        for heat in range(low, middle):
            right[heat] = left[heat + 1] = Fraction(degrees)
        for heat in range(middle, high):
            right[heat] = degrees + Fraction(heat - middle, high - middle)
            left[heat + 1] = degrees + Fraction(heat + 1 - middle, high - middle)
    return left, right


def whole(problem, gives):
    return heat_below(problem, gives, 1001, True)


def least_difference(problem, heating):
    """Return the least difference over all integer heats, on both sides of each; lines bend and step only there."""
    begin = heating - whole(problem, False) + whole(problem, True)
    found = []
    for giving, taking in zip(sides(problem, True), sides(problem, False)):
        found += [giving[heat] - taking[heat - begin] for heat in giving if heat - begin in taking]
    return min(found) if found else None


class TestCurves(unittest.TestCase):
    def test_by_definition(self):
        for problem in problems(111, 60) + [LARGEST]:
            for gives in (True, False):
                found = curve(problem, gives)
                self.assertEqual(found, corners(problem, gives), (problem, gives))
                self.assertEqual(type(found), tuple)
                self.assertTrue(all(type(corner) is tuple for corner in found))
                self.assertEqual(list(found), sorted(set(found)))

    def test_steps(self):
        problem = (((180, 60, 2), (20, 100, 3)), ((50, 7), (70, -4)), 10)
        self.assertEqual(curve(problem, True), ((0, 50), (7, 50), (7, 60), (247, 180)))
        self.assertEqual(curve(problem, False), ((0, 20), (150, 70), (154, 70), (244, 100)))

    def test_boxes_at_one_temperature(self):
        problem = ((), ((50, 7), (80, 5), (50, 3), (80, -5)), 10)
        self.assertEqual(curve(problem, True), ((0, 50), (10, 50), (10, 80), (15, 80)))
        self.assertEqual(curve(problem, False), ((0, 80), (5, 80)))

    def test_boxes_at_the_ends_of_streams(self):
        problem = (((90, 50, 1),), ((50, 7), (90, 5)), 10)
        self.assertEqual(curve(problem, True), ((0, 50), (7, 50), (47, 90), (52, 90)))

    def test_no_bend_at_an_end(self):
        problem = (((90, 50, 2), (50, 20, 2), (70, 60, 1)), (), 10)
        self.assertEqual(curve(problem, True), ((0, 20), (60, 50), (80, 60), (110, 70), (150, 90)))

    def test_empty(self):
        self.assertEqual(curve((((180, 60, 2),), ((50, 7),), 10), False), ())
        self.assertEqual(curve((((60, 180, 2),), ((50, -7),), 10), True), ())

    def test_the_gap_is_left_out(self):
        for gap in (0, 10, 100):
            self.assertEqual(curve((PROBLEM[0], (), gap), True), ((0, 60), (240, 180)))
            self.assertEqual(curve((PROBLEM[0], (), gap), False), ((0, 20), (240, 100)))


class TestApproach(unittest.TestCase):
    def check(self, problem, heating, expected):
        if expected is not None:
            expected = (Fraction(expected).numerator, Fraction(expected).denominator)
        self.assertEqual(approach(problem, heating), expected, (problem, heating))

    def test_at_all_heats(self):
        chance = random.Random(112)
        kinds = {}
        for problem in problems(113, 12):
            least = max(0, whole(problem, False) - whole(problem, True))
            heatings = {least, least + 1, least_outside(problem)[0], whole(problem, False)}
            heatings |= {chance.randint(least, whole(problem, False) + least) for _ in range(3)}
            for heating in sorted(heatings):
                expected = least_difference(problem, heating)
                self.check(problem, heating, expected)
                kind = None if expected is None else (expected >= 0, expected.denominator > 1)
                kinds[kind] = kinds.get(kind, 0) + 1
        self.assertEqual(len(kinds), 5, kinds)
        self.assertGreater(min(kinds.values()), 3, kinds)

    def test_least_heating_keeps_the_gap(self):
        reached = 0
        for problem in problems(114, 80):
            heating, _ = least_outside(problem)
            found = approach(problem, heating)
            if found is not None:
                self.assertGreaterEqual(Fraction(*found), problem[2], problem)
                reached += found == (problem[2], 1)
        self.assertGreater(reached, 30)

    def test_plain_lines(self):
        self.check(PROBLEM, 0, 40)
        self.check(PROBLEM, 60, 70)
        self.check(PROBLEM, 30, 55)
        self.check((((180, 60, 2), (170, 250, 3)), (), 10), 0, -110)
        self.check((((100, 50, 3), (40, 50, 4)), (), 10), 0, Fraction(140, 3))

    def test_lines_with_nothing_in_common(self):
        self.check(PROBLEM, 239, 160 - Fraction(1, 2))
        self.check(PROBLEM, 240, None)
        self.check(PROBLEM, 241, None)
        self.check(PROBLEM, 10 ** 30, None)

    def test_empty_lines(self):
        self.check((((180, 60, 2),), ((50, 7),), 10), 0, None)
        self.check((((180, 60, 2),), ((50, 7),), 10), 5, None)
        self.check((((60, 180, 2),), ((50, -7),), 10), 247, None)
        self.check((((60, 180, 2),), ((50, -7),), 10), 300, None)

    def test_steps_within_the_common_part(self):
        # The givers' line steps from 50 to 60 at the heat 7, the takers' one stays below it.
        problem = (((180, 60, 2), (20, 100, 3)), ((50, 7),), 0)
        self.check(problem, 0, 60 - 20)
        problem = ((), ((50, 5), (90, 5), (20, -5), (80, -5)), 0)
        self.check(problem, 0, 10)
        self.check(problem, 5, 70)
        # Where both lines step at the same heat, each side counts for itself: 50 less 80 does not.
        self.check(((), ((50, 5), (90, 5), (45, -5), (80, -5)), 0), 0, 5)
        self.check(((), ((50, 5), (90, 5), (45, -4), (80, -6)), 0), 0, -30)

    def test_steps_at_the_ends_of_the_common_part(self):
        # The takers' line steps from 20 to 500 just where the givers' line ends.
        problem = ((), ((50, 5), (20, -5), (500, -5)), 10)
        self.assertEqual(least_outside(problem), (5, 0))
        self.check(problem, 5, 30)
        self.check(problem, 6, 30)
        # The givers' line steps from 5 to 50 just where the takers' line begins.
        problem = ((), ((5, 5), (50, 5), (20, -5)), 10)
        self.assertEqual(least_outside(problem), (0, 5))
        self.check(problem, 0, 30)
        self.check(problem, 1, 30)

    def test_steps_at_either_end(self):
        problem = (((100, 50, 1), (30, 40, 2)), ((20, 6), (20, -6)), 10)
        self.check(problem, 0, least_difference(problem, 0))
        for heating in range(30):
            self.check(problem, heating, least_difference(problem, heating))

    def test_lines_that_cross(self):
        self.check((((100, 50, 1), (50, 100, 1)), (), 0), 0, 0)
        self.check((((100, 50, 1), (60, 110, 1)), (), 0), 0, -10)
        self.check((((100, 50, 1), (60, 110, 1)), (), 0), 10, 0)
        self.check((((100, 50, 1), (60, 110, 1)), (), 0), 49, 39)

    def test_the_gap_is_left_out(self):
        for gap in (0, 10, 100):
            self.check((PROBLEM[0], (), gap), 0, 40)

    def test_largest(self):
        heating, _ = least_outside(LARGEST)
        self.assertGreaterEqual(Fraction(*approach(LARGEST, heating)), 100)
        self.check(LARGEST, 0, 0)
        self.check(LARGEST, 1, 0)
        self.check((LARGEST[0], (), 100), 1, Fraction(1, 300))


class TestFaults(Faults, unittest.TestCase):
    def test_problems(self):
        for value, error in problem_faults():
            self.assert_fault(error, curve, value, True)
            self.assert_fault(error, curve, value, None)
            self.assert_fault(error, approach, value, 0)
            self.assert_fault(error, approach, value, -1)

    def test_flags(self):
        for value in BAD_FLAGS:
            self.assert_fault(errors.BadFlag(), curve, PROBLEM, value)

    def test_heatings(self):
        for value in JUNK:
            if not isinstance(value, int) or isinstance(value, bool) or value < 0:
                self.assert_fault(errors.BadHeating(), approach, PROBLEM, value)
                self.assert_fault(errors.BadHeating(), approach, (((180, 60, 2),), (), 10), value)

    def test_least_heating_that_is_allowed(self):
        problem = (((100, 50, 1), (40, 90, 2)), ((60, -3),), 0)
        self.assert_fault(errors.BadHeating(), approach, problem, 52)
        self.assertIsNotNone(approach(problem, 53))
        self.assert_fault(errors.BadHeating(), approach, (((60, 180, 2),), (), 10), 239)
        self.assertIsNone(approach((((60, 180, 2),), (), 10), 240))
        self.assert_fault(errors.BadHeating(), approach, (((180, 60, 2),), (), 10), -1)
        self.assertIsNone(approach((((180, 60, 2),), (), 10), 0))


if __name__ == "__main__":
    unittest.main()
