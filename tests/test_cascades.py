"""pinchworks.cascades: points 1 to 3."""

import random
import unittest

from pinchworks import errors
from pinchworks.cascades import (
    cascade, given_above, heating_paper, least_outside, levels, pinches, shows_heating,
)
from tests import oracles
from tests.faults import BAD_LEVELS, Faults, problem_faults

PROBLEM = (((180, 60, 2), (20, 100, 3)), ((100, -40),), 10)
OF_ONE = (levels, least_outside, cascade, heating_paper, pinches)
LARGEST = (((1000, 0, 100),) * 3 + ((0, 1000, 100),) * 3, ((1000, 10000), (0, -10000), (1000, -10000), (0, 10000)), 100)


def problems(seed, many):
    rows = [PROBLEM, LARGEST]
    chance = random.Random(seed)
    for _ in range(many):
        rows.append(oracles.random_problem(chance, 6, 4))
        rows.append(oracles.random_problem(chance, 2, 2, span=8, rate=2, heat=9, gap=3))
        rows.append(oracles.random_problem(chance, 3, 4, span=3, rate=2, heat=4, gap=0))
        rows.append(oracles.random_problem(chance, 4, 0, span=1000, rate=100, gap=100))
    return rows


class TestByDegrees(unittest.TestCase):
    def test_levels(self):
        for problem in problems(1, 60):
            self.assertEqual(levels(problem), oracles.all_levels(problem), problem)

    def test_least_outside(self):
        for problem in problems(2, 60):
            self.assertEqual(least_outside(problem), oracles.outside(problem), problem)

    def test_cascade(self):
        for problem in problems(3, 60):
            steps = cascade(problem)
            self.assertEqual(steps, oracles.cascade(problem), problem)
            self.assertTrue(all(before >= 0 and behind >= 0 for _, before, behind in steps), problem)
            self.assertEqual((steps[0][1], steps[-1][2]), least_outside(problem), problem)

    def test_pinches(self):
        for problem in problems(4, 60):
            expected = [level for level, before, behind in oracles.cascade(problem) if 0 in (before, behind)]
            self.assertEqual(pinches(problem), tuple(expected), problem)

    def test_given_above(self):
        for problem in problems(5, 12):
            pieces = oracles.slices(problem)
            for level in (10 ** 20, 1001, *range(205, -105, -7), *levels(problem), -10 ** 20):
                above = [piece[3] for piece in pieces if oracles.is_above(piece, level, True)]
                expected = (sum(heat for heat in above if heat > 0), -sum(heat for heat in above if heat < 0))
                self.assertEqual(given_above(problem, level), expected, (problem, level))

    def test_papers(self):
        for problem in problems(6, 60):
            heating, _ = oracles.outside(problem)
            paper = heating_paper(problem)
            self.assertIs(shows_heating(problem, paper), True, (problem, paper))
            if heating == 0:
                self.assertIsNone(paper, problem)
            else:
                self.assertEqual([type(part) for part in paper], [int, bool])
                self.assertEqual(oracles.lack(oracles.slices(problem), *paper), heating, (problem, paper))

    def test_which_papers_are_shown(self):
        for problem in problems(7, 8):
            heating, _ = oracles.outside(problem)
            pieces = oracles.slices(problem)
            for level in (*range(201, -35, -5), *levels(problem)):
                for near in (level - 1, level, level + 1):
                    for is_open in (False, True):
                        expected = heating > 0 and oracles.lack(pieces, near, is_open) == heating
                        self.assertIs(shows_heating(problem, (near, is_open)), expected, (problem, near, is_open))
            self.assertIs(shows_heating(problem, None), heating == 0, problem)


class TestEdges(unittest.TestCase):
    def test_one_hot_stream(self):
        problem = (((180, 60, 2),), (), 10)
        self.assertEqual(levels(problem), (170, 50))
        self.assertEqual(least_outside(problem), (0, 240))
        self.assertEqual(cascade(problem), ((170, 0, 0), (50, 240, 240)))
        self.assertIsNone(heating_paper(problem))
        self.assertEqual(pinches(problem), (170,))

    def test_one_cold_stream(self):
        problem = (((20, 100, 3),), (), 10)
        self.assertEqual(levels(problem), (100, 20))
        self.assertEqual(least_outside(problem), (240, 0))
        self.assertEqual(cascade(problem), ((100, 240, 240), (20, 0, 0)))
        self.assertEqual(pinches(problem), (20,))
        for value in [(20, False), (20, True), (19, True), (-5, False), (-10 ** 30, True)]:
            self.assertIs(shows_heating(problem, value), True, value)
        for value in [(21, False), (21, True), (100, False), (10 ** 30, False)]:
            self.assertIs(shows_heating(problem, value), False, value)

    def test_boxes_alone(self):
        self.assertEqual(levels(((), ((50, 7),), 10)), (40,))
        self.assertEqual(least_outside(((), ((50, 7),), 10)), (0, 7))
        self.assertEqual(least_outside(((), ((50, -7),), 10)), (7, 0))
        self.assertEqual(cascade(((), ((50, -7),), 10)), ((50, 7, 0),))
        self.assertEqual(cascade(((), ((50, 7),), 10)), ((40, 0, 7),))
        self.assertEqual(pinches(((), ((50, -7),), 10)), (50,))

    def test_boxes_at_one_level(self):
        problem = ((), ((60, 7), (50, -7)), 10)
        self.assertEqual(cascade(problem), ((50, 0, 0),))
        self.assertIsNone(heating_paper(problem))
        self.assertEqual(least_outside(((), ((59, 7), (50, -7)), 10)), (7, 7))
        self.assertEqual(least_outside(((), ((60, 7), (50, -9)), 10)), (2, 0))

    def test_open_and_closed_papers(self):
        below = (((50, 40, 1),), ((50, -7),), 0)
        self.assertIs(shows_heating(below, (50, False)), True)
        self.assertIs(shows_heating(below, (50, True)), False)
        self.assertIs(shows_heating(below, (49, True)), False)
        above = (((50, 60, 1),), ((50, 9),), 0)
        self.assertIs(shows_heating(above, (50, True)), True)
        self.assertIs(shows_heating(above, (50, False)), False)

    def test_box_at_a_streams_end(self):
        problem = (((100, 50, 2),), ((50, -100),), 0)
        self.assertEqual(least_outside(problem), (0, 0))
        self.assertEqual(least_outside((((100, 50, 2),), ((51, -100),), 0)), (2, 2))
        self.assertEqual(least_outside((((100, 50, 2),), ((50, -100),), 1)), (2, 2))
        self.assertEqual(least_outside((((20, 80, 1),), ((80, 60),), 0)), (0, 0))
        self.assertEqual(least_outside((((20, 80, 1),), ((80, 60),), 1)), (1, 1))

    def test_a_gap_that_shifts_levels_below_zero(self):
        self.assertEqual(levels((((50, 0, 1),), ((20, 5),), 100)), (-50, -80, -100))

    def test_levels_above_and_below_all(self):
        self.assertEqual(given_above(PROBLEM, 10 ** 40), (0, 0))
        self.assertEqual(given_above(PROBLEM, -10 ** 40), (240, 280))
        self.assertEqual(given_above(PROBLEM, 170), (0, 0))
        self.assertEqual(given_above(PROBLEM, 100), (140, 0))
        self.assertEqual(given_above(PROBLEM, 99), (142, 43))
        self.assertEqual(given_above(((), ((50, 7),), 10), 40), (0, 0))
        self.assertEqual(given_above(((), ((50, 7),), 10), 39), (7, 0))

    def test_largest(self):
        self.assertEqual(least_outside(LARGEST), oracles.outside(LARGEST))
        self.assertEqual(least_outside((((0, 1000, 100),) * 6, ((5, -10000),) * 4, 0)), (640000, 0))

    def test_equal_arguments(self):
        before = repr(PROBLEM)
        for function in OF_ONE:
            self.assertEqual(function(PROBLEM), function((PROBLEM[0], PROBLEM[1], 10)))
        self.assertEqual(repr(PROBLEM), before)


class TestFaults(Faults, unittest.TestCase):
    def test_problems(self):
        for value, error in problem_faults():
            for function in OF_ONE:
                self.assert_fault(error, function, value)
            for level in (60, None, True):
                self.assert_fault(error, given_above, value, level)
            for paper in (None, (60, False), [], True):
                self.assert_fault(error, shows_heating, value, paper)

    def test_problem_errors_in_their_order(self):
        self.assert_fault(errors.BadStreams(None), levels, (None, None, None))
        self.assert_fault(errors.BadStreams(0), levels, ((1,), (1,), True))
        self.assert_fault(errors.BadBoxes(1), levels, ((), ((5, 5), (5, 0)), True))
        self.assert_fault(errors.BadGap(), levels, ((), (), ()))
        self.assert_fault(errors.BadProblem(), levels, ((), (), 0))
        self.assert_fault(errors.BadStreams(None), levels, (1, 2, 3))

    def test_limits(self):
        self.assertEqual(levels((((1000, 0, 100),) * 6, ((0, -10000),) * 4, 100)), (900, 0, -100))
        self.assert_fault(errors.BadStreams(None), levels, (((1000, 0, 100),) * 7, (), 0))
        self.assert_fault(errors.BadBoxes(None), levels, ((), ((0, -10000),) * 5, 0))
        self.assert_fault(errors.BadGap(), levels, (((1000, 0, 100),), (), 101))

    def test_levels(self):
        for value in BAD_LEVELS:
            self.assert_fault(errors.BadLevel(), given_above, PROBLEM, value)

    def test_papers(self):
        pinched_higher = (((180, 60, 2), (120, 200, 3)), (), 10)
        self.assert_truths(shows_heating, pinched_higher)
        self.assert_truths(shows_heating, (((180, 60, 2),), (), 10), but=(None,))
        self.assert_truths(shows_heating, PROBLEM, but=((1, True), (0, False)))
        one_cold = (((1, 2, 3),), (), 0)
        self.assert_truths(shows_heating, one_cold, but=((1, True), (0, False)))
        for value in [(1, 0), (1, 1), (1, None), (True, True), (1, True, 1), [1, True], ((1, True),), ("1", True)]:
            self.assertIs(shows_heating(one_cold, value), False, value)


if __name__ == "__main__":
    unittest.main()
