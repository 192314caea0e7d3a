"""pinchworks.spreads: point 14."""

import itertools
import random
import unittest

from pinchworks import errors
from pinchworks.cascades import least_outside
from pinchworks.spreads import shows_rates, worst_heating, worst_rates
from tests import oracles
from tests.faults import BARRABLE, JUNK, Faults, problem_faults, spread_faults

PROBLEM = (((180, 60, 2), (20, 100, 3)), (), 10)


def cases(seed, many, streams=4):
    """Return pairs (problem, spreads), some of the spreads 0."""
    chance = random.Random(seed)
    rows = []
    for _ in range(many):
        for problem in (oracles.random_problem(chance, streams, 4), oracles.random_problem(chance, streams, 2, span=12)):
            rows.append((problem, tuple(chance.choice((0, chance.randint(0, rate - 1))) for _, _, rate in problem[0])))
    return rows


def with_rates(problem, rates):
    streams = tuple((start, goal, rate) for (start, goal, _), rate in zip(problem[0], rates))
    return (streams, problem[1], problem[2])


def corners(problem, spreads):
    """Return all tuples of rates at the ends of their ranges."""
    ends = [(rate - spread, rate + spread) for (_, _, rate), spread in zip(problem[0], spreads)]
    return list(itertools.product(*ends))


class TestWorst(unittest.TestCase):
    def test_by_trying_all_corners(self):
        for problem, spreads in cases(141, 30):
            heatings = {rates: oracles.outside(with_rates(problem, rates))[0] for rates in corners(problem, spreads)}
            found = worst_rates(problem, spreads)
            self.assertEqual(worst_heating(problem, spreads), max(heatings.values()), (problem, spreads))
            self.assertEqual(heatings[found], max(heatings.values()), (problem, spreads, found))
            self.assertEqual((type(found), {type(rate) for rate in found} - {int}), (tuple, set()))

    def test_by_trying_all_rates(self):
        chance = random.Random(142)
        for _ in range(25):
            problem = oracles.random_problem(chance, 3, 2, span=12, rate=4)
            spreads = tuple(chance.randint(0, rate - 1) for _, _, rate in problem[0])
            ranges = [range(rate - spread, rate + spread + 1) for (_, _, rate), spread in zip(problem[0], spreads)]
            heatings = [least_outside(with_rates(problem, rates))[0] for rates in itertools.product(*ranges)]
            self.assertEqual(worst_heating(problem, spreads), max(heatings), (problem, spreads))

    def test_which_rates_are_shown(self):
        shown = 0
        for problem, spreads in cases(143, 25, 3):
            worst = worst_heating(problem, spreads)
            ranges = [sorted({rate - spread - 1, rate - spread, rate, rate + spread, rate + spread + 1})
                      for (_, _, rate), spread in zip(problem[0], spreads)]
            allowed = corners(problem, spreads)
            for rates in itertools.product(*ranges):
                expected = rates in allowed and oracles.outside(with_rates(problem, rates))[0] == worst
                self.assertIs(shows_rates(problem, spreads, rates), expected, (problem, spreads, rates))
                shown += expected
            rates = worst_rates(problem, spreads)
            for near in (None, list(rates), rates + (1,), rates[1:] if rates else (1,)):
                self.assertIs(shows_rates(problem, spreads, near), False, (problem, spreads, near))
        self.assertGreater(shown, 60)

    def test_no_spreads(self):
        for problem, _ in cases(144, 20):
            spreads = (0,) * len(problem[0])
            self.assertEqual(worst_heating(problem, spreads), least_outside(problem)[0])
            self.assertEqual(worst_rates(problem, spreads), tuple(rate for _, _, rate in problem[0]))

    def test_no_streams(self):
        problem = ((), ((100, -40), (90, 5)), 10)
        self.assertEqual((worst_heating(problem, ()), worst_rates(problem, ())), (40, ()))
        self.assertIs(shows_rates(problem, (), ()), True)

    def test_rates_that_do_not_matter(self):
        # The hot stream comes too low to heat anything.
        problem = (((30, 20, 5), (60, 90, 3)), (), 0)
        for rates, expected in (((5, 3), False), ((4, 4), True), ((6, 4), True), ((5, 4), False), ((6, 2), False)):
            self.assertIs(shows_rates(problem, (1, 1), rates), expected, rates)
        self.assertEqual(worst_heating(problem, (1, 1)), 120)
        self.assertIs(shows_rates(problem, (0, 1), (5, 4)), True)

    def test_largest(self):
        streams = ((1000, 0, 100),) * 3 + ((0, 1000, 100),) * 3
        self.assertEqual(worst_heating((streams, (), 0), (99,) * 6), 3 * 1000 * 198)
        self.assertEqual(worst_rates((streams, (), 0), (99,) * 6), (1,) * 3 + (199,) * 3)
        self.assertEqual(worst_heating((((0, 1000, 100),) * 6, (), 100), (99,) * 6), 6 * 199000)


class TestFaults(Faults, unittest.TestCase):
    def test_problems(self):
        for value, error in problem_faults():
            self.assert_fault(error, worst_heating, value, ())
            self.assert_fault(error, worst_rates, value, None)
            self.assert_fault(error, shows_rates, value, None, None)

    def test_spreads(self):
        for value in spread_faults():
            self.assert_fault(errors.BadSpreads(), worst_heating, BARRABLE, value)
            self.assert_fault(errors.BadSpreads(), worst_rates, BARRABLE, value)
            self.assert_fault(errors.BadSpreads(), shows_rates, BARRABLE, value, None)
        for value in JUNK:
            if value != () or not isinstance(value, tuple):
                self.assert_fault(errors.BadSpreads(), worst_heating, ((), BARRABLE[1], 10), value)

    def test_limits(self):
        self.assertEqual(worst_rates(PROBLEM, (1, 2)), (1, 5))
        self.assert_fault(errors.BadSpreads(), worst_rates, PROBLEM, (2, 2))
        self.assert_fault(errors.BadSpreads(), worst_rates, PROBLEM, (1, 3))
        self.assertEqual(worst_rates((((180, 60, 1),), (), 10), (0,)), (1,))
        self.assert_fault(errors.BadSpreads(), worst_rates, (((180, 60, 1),), (), 10), (1,))

    def test_last_arguments(self):
        self.assert_truths(shows_rates, PROBLEM, (1, 1))
        self.assert_truths(shows_rates, ((), ((5, 1),), 0), (), but=((),))
        self.assert_truths(shows_rates, (((180, 60, 1),), (), 10), (0,), but=((1,),))
        self.assert_truths(shows_rates, (((180, 60, 1), (60, 180, 2)), (), 10), (0, 0), but=((1, 2),))
        for value in [(True, 4), (1, "4"), (1, None), (1, (4,)), [1, 4], (1, 4, 4), (1,), (1, []), ((1, 4),), {1: 4}]:
            self.assertIs(shows_rates(PROBLEM, (1, 1), value), False, value)
        self.assertIs(shows_rates(PROBLEM, (1, 1), (1, 4)), True)


if __name__ == "__main__":
    unittest.main()
