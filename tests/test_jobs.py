"""pinchworks.jobs: point 19."""

import random
import unittest

from pinchworks import errors
from pinchworks.cascades import least_outside
from pinchworks.jobs import busiest, idle, minutes, with_store
from pinchworks.storing import stored_outside
from tests import oracles
from tests.faults import BAD_GAPS, JOB, JUNK, Faults, job_faults
from tests.test_storing import stored_by_degrees

ALL = (minutes, busiest, idle, with_store)
HOT, COLD = (100, 50, 1), (40, 90, 1)


def random_jobs(chance, most, last, span=200, rate=9):
    found = []
    for _ in range(chance.randint(1, most)):
        start, goal = chance.sample(range(span + 1), 2)
        begin, end = sorted(chance.sample(range(last + 1), 2))
        found.append(((start, goal, chance.randint(1, rate)), begin, end))
    return tuple(found)


def cases(seed, many):
    """Return pairs (jobs, gap)."""
    chance = random.Random(seed)
    rows = []
    for _ in range(many):
        rows.append((random_jobs(chance, 4, 12), chance.randint(0, 30)))
        rows.append((random_jobs(chance, 6, 50), chance.randint(0, 100)))
        rows.append((random_jobs(chance, 4, 4, span=9, rate=2), chance.randint(0, 2)))
        rows.append((random_jobs(chance, 6, 6, span=3, rate=1), 0))
    return rows


def problems_of(jobs, gap):
    """Return the problem of each minute, None where nothing flows."""
    found = []
    for minute in range(max(end for _, _, end in jobs)):
        streams = tuple(stream for stream, begin, end in jobs if minute in range(begin, end))
        found.append((streams, (), gap) if streams else None)
    return found


class TestMinutes(unittest.TestCase):
    def test_minute_by_minute(self):
        empty = 0
        for jobs, gap in cases(191, 25):
            problems = problems_of(jobs, gap)
            expected = tuple((0, 0) if problem is None else oracles.outside(problem) for problem in problems)
            self.assertEqual(minutes(jobs, gap), expected, (jobs, gap))
            self.assertEqual([type(pair) for pair in minutes(jobs, gap)], [tuple] * len(problems))
            heatings = [heating for heating, _ in expected]
            first = heatings.index(max(heatings))
            self.assertEqual(busiest(jobs, gap), (first, heatings[first]), (jobs, gap))
            still = tuple(minute for minute, pair in enumerate(expected) if pair == (0, 0))
            self.assertEqual(idle(jobs, gap), still, (jobs, gap))
            empty += None in problems
        self.assertGreater(empty, 20)

    def test_jobs_that_touch(self):
        jobs = ((HOT, 0, 2), (COLD, 2, 3))
        self.assertEqual(minutes(jobs, 0), ((0, 50), (0, 50), (50, 0)))
        self.assertEqual(busiest(jobs, 0), (2, 50))
        self.assertEqual(idle(jobs, 0), ())
        self.assertEqual(with_store(jobs, 0), (0, 50))
        # The same stream in two jobs that touch is one that goes on.
        self.assertEqual(minutes(((HOT, 0, 2), (HOT, 2, 3)), 0), minutes(((HOT, 0, 3),), 0))
        self.assertEqual(minutes(((HOT, 0, 2), (HOT, 1, 3)), 0), ((0, 50), (0, 100), (0, 50)))

    def test_minutes_in_which_nothing_flows(self):
        jobs = ((COLD, 2, 3), (COLD, 5, 6))
        self.assertEqual(minutes(jobs, 5), ((0, 0), (0, 0), (50, 0), (0, 0), (0, 0), (50, 0)))
        self.assertEqual(busiest(jobs, 5), (2, 50))
        self.assertEqual(idle(jobs, 5), (0, 1, 3, 4))
        self.assertEqual(with_store(jobs, 5), (100, 0))

    def test_minutes_without_outside(self):
        both = ((HOT, 0, 3), ((40, 90, 1), 1, 2))
        self.assertEqual(minutes(both, 10), ((0, 50), (0, 0), (0, 50)))
        self.assertEqual(idle(both, 10), (1,))
        self.assertEqual(idle(both, 11), ())
        self.assertEqual(minutes(both, 11)[1], (1, 1))
        # No minute needs heating: the first one is the busiest.
        self.assertEqual(busiest(((HOT, 3, 4),), 0), (0, 0))
        self.assertEqual(busiest(((HOT, 0, 1),), 0), (0, 0))

    def test_first_of_equal_minutes(self):
        self.assertEqual(busiest(((COLD, 1, 9), (HOT, 1, 3)), 100), (1, 50))
        self.assertEqual(busiest(((COLD, 1, 9), (HOT, 1, 3)), 0), (3, 50))
        self.assertEqual(busiest(((COLD, 4, 9), (COLD, 7, 8), (COLD, 8, 9)), 0), (7, 100))

    def test_largest(self):
        jobs = (((1000, 0, 100), 0, 50),) * 3 + (((0, 1000, 100), 49, 50),) * 3
        self.assertEqual(minutes(jobs, 100), ((0, 300000),) * 49 + ((30000, 30000),))
        self.assertEqual(busiest(jobs, 100), (49, 30000))
        self.assertEqual(idle((((5, 4, 1), 49, 50),), 0), tuple(range(49)))
        self.assertEqual(with_store(jobs, 100), (30000, 49 * 300000 + 30000))


class TestStore(unittest.TestCase):
    def test_by_degrees(self):
        saved = 0
        for jobs, gap in cases(192, 8):
            problems = [((), (), gap) if problem is None else problem for problem in problems_of(jobs, gap)]
            expected = stored_by_degrees(problems, False)
            self.assertEqual(with_store(jobs, gap), expected, (jobs, gap))
            saved += expected[0] < sum(heating for heating, _ in minutes(jobs, gap))
        self.assertGreater(saved, 5)

    def test_by_periods(self):
        chance = random.Random(193)
        for _ in range(80):
            jobs = random_jobs(chance, 6, 4)
            gap = chance.randint(0, 40)
            # Minutes in which nothing flows change nothing.
            periods = tuple(problem for problem in problems_of(jobs, gap) if problem is not None)
            self.assertEqual(with_store(jobs, gap), stored_outside(periods, False), (jobs, gap))

    def test_later_only(self):
        self.assertEqual(with_store(((HOT, 0, 1), (COLD, 49, 50)), 0), (0, 0))
        self.assertEqual(with_store(((HOT, 49, 50), (COLD, 0, 1)), 0), (50, 50))
        self.assertEqual(with_store(((HOT, 1, 2), (COLD, 1, 2)), 10), (0, 0))
        self.assertEqual(with_store(((HOT, 1, 2), (COLD, 1, 2)), 11), (1, 1))
        self.assertEqual(with_store(((HOT, 1, 2), (COLD, 0, 2)), 10), (50, 0))
        self.assertEqual(with_store(((HOT, 1, 3), (COLD, 0, 2)), 10), (50, 50))

    def test_one_minute(self):
        chance = random.Random(194)
        for _ in range(40):
            problem = oracles.random_problem(chance, 6, 0)
            jobs = tuple((stream, 0, 1) for stream in problem[0])
            self.assertEqual(with_store(jobs, problem[2]), least_outside(problem))
            self.assertEqual(minutes(jobs, problem[2]), (least_outside(problem),))


class TestFaults(Faults, unittest.TestCase):
    def test_jobs(self):
        for value, error in job_faults():
            for function in ALL:
                self.assert_fault(error, function, value, 10)
                self.assert_fault(error, function, value, None)

    def test_gaps(self):
        for value in BAD_GAPS + [value for value in JUNK if not isinstance(value, int)]:
            for function in ALL:
                self.assert_fault(errors.BadGap(), function, (JOB,), value)

    def test_limits(self):
        for function in ALL:
            for gap in (0, 100):
                self.assertIsNotNone(function((JOB,) * 6, gap))
                self.assertIsNotNone(function((((0, 1000, 100), 0, 50), ((1000, 0, 1), 49, 50)), gap))
            self.assert_fault(errors.BadJobs(None), function, (JOB,) * 7, 10)
            self.assert_fault(errors.BadGap(), function, (JOB,) * 6, 101)


if __name__ == "__main__":
    unittest.main()
