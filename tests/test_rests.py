"""pinchworks.rests: point 26."""

import random
import unittest
from math import lcm

from pinchworks import errors
from pinchworks.cascades import least_outside
from pinchworks.networks import flaw
from pinchworks.rests import best_match, free_gap, penalty, rest_after
from tests import oracles
from tests.faults import BAD_MATCHES, BOX, JUNK, NETWORKED, Faults, problem_faults

STREAMS = ((180, 60, 2), (20, 100, 3))
PROBLEM = (STREAMS, (), 10)
PASSING = (rest_after, penalty)


def random_matched(chance, most, **limits):
    """Return a problem with at least one hot and one cold stream."""
    while True:
        problem = oracles.random_problem(chance, most, 0, **limits)
        if len({start > goal for start, goal, _ in problem[0]}) == 2:
            return problem


def loads_of(problem, hot, cold):
    """Return all loads that a hot and a cold stream can have at their hot ends."""
    step = lcm(problem[0][hot][2], problem[0][cold][2])
    heats = [problem[0][number][2] * abs(problem[0][number][0] - problem[0][number][1]) for number in (hot, cold)]
    return list(range(step, min(heats) + 1, step))


def pairs_of(problem):
    hots = [number for number, (start, goal, _) in enumerate(problem[0]) if start > goal]
    return [(hot, cold) for hot in hots for cold in range(len(problem[0])) if cold not in hots]


def left_over(problem, hot, cold, load):
    """Return the streams that are left, or None if a difference of temperatures is too small."""
    streams = [list(stream) for stream in problem[0]]
    # The exchanger's temperatures, degree by degree from its hot end.
    for _ in range(load // streams[hot][2]):
        streams[hot][0] -= 1
    for _ in range(load // streams[cold][2]):
        streams[cold][1] -= 1
    if problem[0][hot][0] - problem[0][cold][1] < problem[2] or streams[hot][0] - streams[cold][1] < problem[2]:
        return None
    return tuple(tuple(stream) for stream in streams if stream[0] != stream[1])


def penalty_by_degrees(problem, hot, cold, load):
    streams = left_over(problem, hot, cold, load)
    if streams is None:
        return None
    return (oracles.outside((streams, (), problem[2]))[0] if streams else 0) - oracles.outside(problem)[0]


class TestRests(unittest.TestCase):
    def test_by_degrees(self):
        chance = random.Random(261)
        counts = {None: 0, 0: 0, "more": 0}
        for _ in range(120):
            problem = random_matched(chance, 6, gap=chance.choice((0, 10, 30)))
            for hot, cold in pairs_of(problem):
                loads = loads_of(problem, hot, cold)
                for load in chance.sample(loads, min(3, len(loads))) + loads[-1:]:
                    streams = left_over(problem, hot, cold, load)
                    expected = (streams, (), problem[2]) if streams else None
                    self.assertEqual(rest_after(problem, hot, cold, load), expected, (problem, hot, cold, load))
                    more = penalty_by_degrees(problem, hot, cold, load)
                    self.assertEqual(penalty(problem, hot, cold, load), more, (problem, hot, cold, load))
                    if more is not None:
                        self.assertGreaterEqual(more, 0)
                    counts[more if more is None or more == 0 else "more"] += 1
        self.assertGreater(min(counts.values()), 30, counts)

    def test_nothing_left_of_one_stream(self):
        self.assertEqual(rest_after(PROBLEM, 0, 1, 240), None)
        problem = (((180, 60, 2), (20, 98, 3), (50, 70, 1)), (), 10)
        self.assertEqual(rest_after(problem, 0, 1, 234), (((63, 60, 2), (50, 70, 1)), (), 10))
        self.assertEqual(rest_after((STREAMS[:1] + ((20, 120, 3),), (), 10), 0, 1, 240), (((20, 40, 3),), (), 10))

    def test_nothing_left_of_both(self):
        # No stream is left: no problem, and no heating.
        self.assertIsNone(rest_after(PROBLEM, 0, 1, 240))
        self.assertEqual(penalty(PROBLEM, 0, 1, 240), 0)
        self.assertEqual(penalty((STREAMS, (), 40), 0, 1, 240), 0)
        self.assertIsNone(penalty((STREAMS, (), 41), 0, 1, 240))

    def test_differences_at_the_gap(self):
        # 180 less 100 at the hot end; at the other one 180 - load / 2 less 100 + load / 3.
        for gap, load, fits in ((80, 6, False), (79, 6, True), (78, 6, True), (78, 12, True), (77, 18, True), (77, 24, False)):
            found = rest_after((STREAMS, (), gap), 0, 1, load)
            self.assertEqual(found is not None, fits, (gap, load))
            self.assertEqual(penalty((STREAMS, (), gap), 0, 1, load) is not None, fits, (gap, load))
        # Where the cold stream has the smaller rate, the difference at the hot end is the least one.
        streams = ((180, 60, 3), (20, 100, 2))
        for gap, load, fits in ((80, 6, True), (80, 12, True), (81, 6, False), (81, 150, False)):
            self.assertEqual(rest_after((streams, (), gap), 0, 1, load) is not None, fits, (gap, load))
        # A hot start just at, and just below, the cold goal.
        for start, fits in ((110, True), (109, False)):
            problem = (((start, 60, 1), (20, 100, 1)), (), 10)
            self.assertEqual(rest_after(problem, 0, 1, 5) is not None, fits)

    def test_gaps_of_0_and_100(self):
        for gap, start, fits in ((0, 100, True), (0, 99, False), (100, 200, True), (100, 199, False)):
            problem = (((start, 60, 1), (20, 100, 1)), (), gap)
            self.assertEqual(rest_after(problem, 0, 1, 1) is not None, fits)
            if fits:
                self.assertEqual(rest_after(problem, 0, 1, 1), (((start - 1, 60, 1), (20, 99, 1)), (), gap))

    def test_a_penalty(self):
        # The hot stream is passed on to the wrong taker: the one that needs its high temperatures is left.
        problem = (((200, 100, 1), (90, 190, 1), (10, 60, 2)), (), 10)
        self.assertEqual(least_outside(problem), (100, 0))
        self.assertEqual([penalty(problem, 0, 1, load) for load in (1, 50, 100)], [0, 0, 0])
        self.assertEqual([penalty(problem, 0, 2, load) for load in (2, 50, 100)], [0, 0, 0])
        problem = (((200, 100, 1), (90, 190, 1), (60, 10, 1), (0, 50, 1)), (), 10)
        self.assertEqual(least_outside(problem), (0, 0))
        self.assertEqual([penalty(problem, 0, 3, load) for load in (1, 2, 50)], [1, 2, 50])
        self.assertEqual([penalty(problem, 0, 1, load) for load in (1, 2, 50)], [0, 0, 0])

    def test_of_a_network(self):
        # The first exchanger of a sound network costs nothing in a rest that the others make sound.
        problem = (((180, 60, 2), (20, 100, 3), (50, 80, 1)), (), 10)
        network = ((0, 1, 210), (0, 2, 30), (-1, 1, 30))
        self.assertIsNotNone(flaw(problem, network))
        self.assertEqual(penalty(problem, 0, 1, 210), oracles.outside((((75, 60, 2), (20, 30, 3), (50, 80, 1)), (), 10))[0] - 30)


class TestBestMatch(unittest.TestCase):
    def load_by_load(self, problem):
        best = None
        for hot, cold in pairs_of(problem):
            for load in loads_of(problem, hot, cold):
                if penalty(problem, hot, cold, load) == 0 and (best is None or load > best[2]):
                    best = (hot, cold, load)
        return best

    def test_load_by_load(self):
        chance = random.Random(262)
        counts = {None: 0, "whole": 0, "part": 0}
        for at in range(150):
            limits = ({"span": 60, "rate": 3, "gap": 8}, {"span": 9, "rate": 2, "gap": 3}, {"span": 150, "rate": 2})[at % 3]
            problem = random_matched(chance, 5, **limits)
            best = self.load_by_load(problem)
            self.assertEqual(best_match(problem), best, problem)
            if best is None:
                counts[None] += 1
            else:
                counts["whole" if best[2] == loads_of(problem, *best[:2])[-1] else "part"] += 1
        self.assertGreater(min(counts.values()), 10, counts)

    def test_by_degrees(self):
        chance = random.Random(263)
        for _ in range(12):
            problem = random_matched(chance, 4, span=20, rate=2, gap=4)
            best = best_match(problem)
            for hot, cold in pairs_of(problem):
                for load in loads_of(problem, hot, cold):
                    if penalty_by_degrees(problem, hot, cold, load) == 0:
                        self.assertGreaterEqual(best[2], load)
                        if load == best[2]:
                            self.assertLessEqual(best, (hot, cold, load))
            if best is not None:
                self.assertEqual(penalty_by_degrees(problem, *best), 0)

    def test_of_equal_loads_the_first_pair(self):
        streams = ((20, 60, 1), (150, 100, 1), (20, 60, 1), (150, 100, 1))
        self.assertEqual(best_match((streams, (), 10)), (1, 0, 40))
        self.assertEqual(best_match((streams[2:] + streams[:2], (), 10)), (1, 0, 40))
        self.assertEqual(best_match((streams + ((150, 100, 2), (20, 60, 2)), (), 10)), (4, 5, 80))

    def test_none(self):
        for problem in (
            (((180, 60, 2),), (), 10), (((20, 100, 3),), (), 10), (((50, 40, 1), (60, 70, 1)), (), 0),
            (((180, 60, 97), (20, 21, 96)), (), 10), (((110, 109, 1), (20, 101, 1)), (), 10),
        ):
            self.assertIsNone(best_match(problem))
        self.assertEqual(best_match((((111, 109, 1), (20, 101, 1)), (), 10)), (0, 1, 2))

    def test_largest(self):
        problem = (((1000, 0, 100), (0, 1000, 100), (900, 0, 99), (0, 900, 97)), (), 0)
        self.assertEqual(best_match(problem), (0, 1, 100000))
        problem = (((1000, 100, 1), (0, 900, 1)) * 3, (), 100)
        self.assertEqual(best_match(problem), (0, 1, 900))
        self.assertEqual(penalty((((1000, 0, 100), (0, 1000, 100)), (), 0), 0, 1, 100000), 0)


class TestFreeGap(unittest.TestCase):
    def test_gap_by_gap(self):
        chance = random.Random(264)
        counts = [0, 0]
        for _ in range(60):
            streams, boxes, gap = oracles.random_problem(chance, 4, 3)
            if chance.random() < 0.8:
                streams = tuple((max(start, goal), min(start, goal), rate) for start, goal, rate in streams[:-1]) + streams[-1:]
                boxes = tuple((temperature, abs(heat)) for temperature, heat in boxes)
            free = [one for one in range(101) if oracles.outside((streams, boxes, one))[0] == 0]
            expected = max(free) if free else None
            self.assertEqual(free_gap((streams, boxes, gap)), expected, (streams, boxes))
            counts[expected is None] += 1
        self.assertGreater(min(counts), 8, counts)

    def test_of_a_problem(self):
        self.assertEqual(free_gap(PROBLEM), 40)
        self.assertEqual(free_gap((STREAMS, (), 100)), 40)
        self.assertIsNone(free_gap((((20, 100, 3),), (), 10)))
        self.assertEqual(free_gap((((180, 60, 2),), (), 10)), 100)
        self.assertEqual(free_gap((((60, 50, 1), (50, 60, 1)), (), 10)), 0)
        self.assertIsNone(free_gap((((60, 50, 1), (51, 61, 1)), (), 10)))

    def test_boxes(self):
        for difference, expected in ((-1, None), (0, 0), (1, 1), (99, 99), (100, 100), (101, 100)):
            problem = ((), ((500 + difference, 7), (500, -7)), 3)
            self.assertEqual(free_gap(problem), expected)
        self.assertIsNone(free_gap(((), ((500, 6), (500, -7)), 3)))
        self.assertIsNone(free_gap((STREAMS, ((100, -40),), 10)))


class TestFaults(Faults, unittest.TestCase):
    def test_problems(self):
        for value, error in problem_faults():
            for function in PASSING:
                self.assert_fault(error, function, value, 0, 1, 120)
                self.assert_fault(error, function, value, None, None, None)
            self.assert_fault(error, best_match, value)
            self.assert_fault(error, free_gap, value)

    def test_boxes(self):
        for problem in ((STREAMS, (BOX,), 10), ((), (BOX,), 10)):
            for function in PASSING:
                self.assert_fault(errors.HasBoxes(), function, problem, 0, 1, 120)
                self.assert_fault(errors.HasBoxes(), function, problem, None, None, None)
            self.assert_fault(errors.HasBoxes(), best_match, problem)
            self.assertIsNone(free_gap(problem))

    def test_matches(self):
        for hot, cold in BAD_MATCHES:
            for function in PASSING:
                self.assert_fault(errors.BadMatch(), function, NETWORKED, hot, cold, 6)
                self.assert_fault(errors.BadMatch(), function, NETWORKED, hot, cold, None)
        self.assertIsNotNone(penalty(NETWORKED, 2, 1, 6))

    def test_loads(self):
        bad = [value for value in JUNK if not isinstance(value, int) or isinstance(value, bool)]
        bad += [0, -6, 1, 2, 3, 4, 5, 7, 9, 10, 121, 238, 241, 246, 100000, 100001, 100002, 600000, 10 ** 30, -10 ** 30]
        for value in bad:
            for function in PASSING:
                self.assert_fault(errors.BadLoad(), function, PROBLEM, 0, 1, value)
        for value in (6, 12, 120, 234, 240):
            self.assertIsNotNone(penalty(PROBLEM, 0, 1, value))

    def test_limits_of_loads(self):
        # The heat of either stream is the limit, and 100000 of any.
        for streams, most in ((((180, 60, 2), (20, 99, 3)), 234), (((179, 60, 2), (20, 100, 3)), 234)):
            self.assertIsNotNone(penalty((streams, (), 0), 0, 1, most))
            for load in (most + 1, most + 2, most + 3, most + 4, most + 6):
                self.assert_fault(errors.BadLoad(), penalty, (streams, (), 0), 0, 1, load)
        largest = (((1000, 0, 100), (0, 1000, 100)), (), 0)
        self.assertIsNone(rest_after(largest, 0, 1, 100000))
        self.assert_fault(errors.BadLoad(), rest_after, largest, 0, 1, 100100)
        self.assert_fault(errors.BadLoad(), rest_after, largest, 0, 1, 99950)

    def test_bad_load_ahead_of_small_differences(self):
        problem = (((50, 40, 2), (60, 70, 3)), (), 10)
        for function in PASSING:
            self.assertIsNone(function(problem, 0, 1, 6))
            self.assert_fault(errors.BadLoad(), function, problem, 0, 1, 5)
            self.assert_fault(errors.BadLoad(), function, problem, 0, 1, 24)


if __name__ == "__main__":
    unittest.main()
