"""pinchworks.changes: point 27."""

import random
import unittest

from pinchworks import errors
from pinchworks.barring import barred_outside
from pinchworks.cascades import given_above, least_outside, levels, pinches
from pinchworks.changes import cut_at, joined, mirrored, moved_by
from pinchworks.curves import curve
from pinchworks.rests import free_gap
from pinchworks.supplies import cheapest_supply
from pinchworks.targets import most_at, most_from
from tests import oracles
from tests.faults import BAD_LEVELS, BOX, STREAM, Faults, problem_faults

PROBLEM = (((180, 60, 2), (20, 100, 3)), ((100, -40),), 10)


def cases(seed, many):
    chance = random.Random(seed)
    rows = []
    for _ in range(many):
        rows.append(oracles.random_problem(chance, 6, 4))
        rows.append(oracles.random_problem(chance, 6, 0, gap=100))
        rows.append(oracles.random_problem(chance, 0, 4, span=9, heat=9, gap=3))
        rows.append(oracles.random_problem(chance, 3, 3, span=9, rate=3, heat=9, gap=3))
    return rows


class TestMirrored(unittest.TestCase):
    def test_heating_and_cooling_change_places(self):
        for problem in cases(271, 40):
            found = mirrored(problem)
            heating, cooling = oracles.outside(problem)
            self.assertEqual(least_outside(found), (cooling, heating), problem)
            self.assertEqual(mirrored(found), problem)

    def test_streams_and_boxes(self):
        self.assertEqual(mirrored(PROBLEM), (((820, 940, 2), (980, 900, 3)), ((900, 40),), 10))
        self.assertEqual(mirrored((((0, 1000, 100), (1000, 0, 1)), ((0, 5), (1000, -5), (500, 10000)), 100)),
                         (((1000, 0, 100), (0, 1000, 1)), ((1000, -5), (0, 5), (500, -10000)), 100))

    def test_what_else_changes_places(self):
        for problem in cases(272, 20):
            found, gap = mirrored(problem), problem[2]
            # A level of the one is a level of the other, upside down.
            self.assertEqual(levels(found), tuple(sorted([1000 - gap - level for level in levels(problem)], reverse=True)))
            self.assertEqual(pinches(found), tuple(sorted([1000 - gap - level for level in pinches(problem)], reverse=True)))
            self.assertEqual(free_gap(found) is None, self.lacks_heat(problem))
            for temperature in (0, 40, 100, 101, 200, 1000):
                self.assertEqual(most_from(found, 1000 - temperature), most_at(problem, temperature))
            for gives in (True, False):
                line = curve(found, not gives)
                turned = [(line[-1][0] - heat, 1000 - temperature) for heat, temperature in line]
                self.assertEqual(curve(problem, gives), tuple(sorted(turned)))

    def lacks_heat(self, problem):
        return oracles.outside((problem[0], problem[1], 0))[1] > 0

    def test_bought_and_carried_heat_change_places(self):
        for problem in cases(273, 10):
            hots, colds = ((400, 7), (150, 3)), ((0, 5), (60, 2))
            one = cheapest_supply(problem, hots, colds)
            other = cheapest_supply(mirrored(problem), tuple((1000 - degrees, price) for degrees, price in colds),
                                    tuple((1000 - degrees, price) for degrees, price in hots))
            self.assertEqual(one is None, other is None)
            self.assertEqual(one and one[0], other and other[0], problem)


class TestMoved(unittest.TestCase):
    def test_heating_and_cooling_stay(self):
        for problem in cases(274, 40):
            for degrees in (0, 1, 17, 800):
                found = moved_by(problem, degrees)
                self.assertEqual(least_outside(found), least_outside(problem))
                self.assertEqual(levels(found), tuple(level + degrees for level in levels(problem)))
                self.assertEqual(moved_by(found, -degrees), problem)

    def test_streams_and_boxes(self):
        self.assertEqual(moved_by(PROBLEM, 5), (((185, 65, 2), (25, 105, 3)), ((105, -40),), 10))
        self.assertEqual(moved_by(PROBLEM, -20), (((160, 40, 2), (0, 80, 3)), ((80, -40),), 10))
        self.assertEqual(moved_by(PROBLEM, 0), PROBLEM)

    def test_ends_of_the_range(self):
        faults = Faults.assert_fault
        for problem, lowest, highest in (
            (PROBLEM, -20, 820), ((PROBLEM[0][:1], (), 0), -60, 820), ((PROBLEM[0][1:], (), 100), -20, 900),
            (((), ((100, -40), (0, 1)), 10), 0, 900), (((), ((1000, -40), (7, 1)), 10), -7, 0),
            ((((1000, 0, 1),), (), 0), 0, 0), ((((5, 6, 1),), ((3, 1),), 0), -3, 994), ((((5, 6, 1),), ((8, 1),), 0), -5, 992),
        ):
            for degrees in (lowest, highest):
                self.assertEqual(least_outside(moved_by(problem, degrees)), least_outside(problem))
            for degrees in (lowest - 1, highest + 1, 10 ** 30, -10 ** 30):
                faults(self, errors.OutOfRange(), moved_by, problem, degrees)


class TestJoined(unittest.TestCase):
    def test_no_more_than_apart(self):
        chance = random.Random(275)
        less = 0
        for _ in range(100):
            one = oracles.random_problem(chance, 3, 2)
            other = oracles.random_problem(chance, 3, 2)[:2] + (one[2],)
            found = joined(one, other)
            self.assertEqual(found, (one[0] + other[0], one[1] + other[1], one[2]))
            together = oracles.outside(found)
            apart = [sum(pair) for pair in zip(least_outside(one), least_outside(other))]
            self.assertEqual(least_outside(found), together)
            self.assertLessEqual(together[0], apart[0])
            self.assertEqual(apart[0] - together[0], apart[1] - together[1])
            less += together[0] < apart[0]
            self.assertEqual(least_outside(joined(other, one)), together)
        self.assertGreater(less, 30)

    def test_order(self):
        one, other = (((1, 2, 3), (4, 5, 6)), ((7, 8),), 9), (((11, 12, 13),), ((14, 15), (16, 17)), 9)
        self.assertEqual(joined(one, other), (((1, 2, 3), (4, 5, 6), (11, 12, 13)), ((7, 8), (14, 15), (16, 17)), 9))
        self.assertEqual(joined(((), ((7, 8),), 9), ((), ((7, 8),), 9)), ((), ((7, 8), (7, 8)), 9))
        self.assertEqual(joined((((1, 2, 3),), (), 9), ((), ((7, 8),), 9)), (((1, 2, 3),), ((7, 8),), 9))
        full = ((STREAM,) * 6, (BOX,) * 4, 9)
        for many in range(7):
            if 0 < many < 6:
                self.assertEqual(joined(((STREAM,) * many, (BOX,) * 2, 9), ((STREAM,) * (6 - many), (BOX,) * 2, 9)), full)


class TestCut(unittest.TestCase):
    def check(self, problem, level):
        """Check the parts degree by degree, and that they stay together what they were."""
        above, below = cut_at(problem, level)
        streams, boxes, gap = problem
        sides = {True: [], False: []}
        for number, at, is_box, heat in oracles.slices(problem):
            # A slice lies below its level; a box at the level itself is above if it takes in heat.
            sides[at > level or (is_box and at == level and heat < 0)].append((at, is_box, heat))
        for side, part in ((True, above), (False, below)):
            pieces = [] if part is None else [piece[1:] for piece in oracles.slices(part)]
            self.assertEqual(sorted(pieces), sorted(sides[side]), (problem, level, part))
            if part is not None:
                self.assertEqual(part[2], gap)
                self.check_order(part, streams, boxes)
        return above, below

    def check_order(self, part, streams, boxes):
        rest = iter(streams)
        for start, goal, rate in part[0]:
            self.assertTrue(any(self.is_part((start, goal, rate), stream) for stream in rest), (part, streams))
        rest = iter(boxes)
        for box in part[1]:
            self.assertTrue(any(box == one for one in rest))

    def is_part(self, part, stream):
        start, goal, rate = stream
        return rate == part[2] and (start - goal) * (part[0] - part[1]) > 0 and all(
            min(start, goal) <= degrees <= max(start, goal) for degrees in part[:2]
        )

    def test_by_degrees(self):
        chance = random.Random(276)
        for problem in cases(277, 25):
            chosen = list(levels(problem)) + [chance.randint(-100, 230) for _ in range(4)]
            for level in chosen + [max(chosen) + 1, min(chosen) - 1, 10 ** 20, -10 ** 20]:
                above, below = self.check(problem, level)
                if level > max(levels(problem)):
                    self.assertEqual((above, below), (None, problem))
                if level < min(levels(problem)):
                    self.assertEqual((above, below), (problem, None))

    def test_parts_at_a_pinch(self):
        chance = random.Random(278)
        seen = 0
        for _ in range(80):
            problem = oracles.random_problem(chance, 6, 0)
            for pinch in pinches(problem):
                above, below = cut_at(problem, pinch)
                heating, cooling = least_outside(problem)
                self.assertEqual((0, 0) if above is None else least_outside(above), (heating, 0), (problem, pinch))
                self.assertEqual((0, 0) if below is None else least_outside(below), (0, cooling), (problem, pinch))
                seen += above is not None and below is not None
        self.assertGreater(seen, 20)

    def test_boxes_at_the_level(self):
        # The giver's level is its temperature less the gap.
        problem = ((), ((60, -5), (70, 7), (61, -1), (59, -2)), 10)
        self.assertEqual(cut_at(problem, 60), (((), ((60, -5), (61, -1)), 10), ((), ((70, 7), (59, -2)), 10)))
        self.assertEqual(cut_at(((), ((71, 3), (69, 4), (70, 1)), 10), 60), (((), ((71, 3),), 10), ((), ((69, 4), (70, 1)), 10)))
        self.assertEqual(cut_at(((), ((60, -5),), 10), 60), (((), ((60, -5),), 10), None))
        self.assertEqual(cut_at(((), ((60, -5),), 10), 61), (None, ((), ((60, -5),), 10)))
        self.assertEqual(cut_at(((), ((70, 5),), 10), 60), (None, ((), ((70, 5),), 10)))
        self.assertEqual(cut_at(((), ((70, 5),), 10), 59), (((), ((70, 5),), 10), None))

    def test_streams_at_the_level(self):
        hot, cold = (((180, 60, 2),), (), 10), (((20, 100, 3),), (), 10)
        self.assertEqual(cut_at(hot, 170), (None, hot))
        self.assertEqual(cut_at(hot, 169), ((((180, 179, 2),), (), 10), (((179, 60, 2),), (), 10)))
        self.assertEqual(cut_at(hot, 51), ((((180, 61, 2),), (), 10), (((61, 60, 2),), (), 10)))
        self.assertEqual(cut_at(hot, 50), (hot, None))
        self.assertEqual(cut_at(cold, 100), (None, cold))
        self.assertEqual(cut_at(cold, 99), ((((99, 100, 3),), (), 10), (((20, 99, 3),), (), 10)))
        self.assertEqual(cut_at(cold, 21), ((((21, 100, 3),), (), 10), (((20, 21, 3),), (), 10)))
        self.assertEqual(cut_at(cold, 20), (cold, None))

    def test_heat_above(self):
        for problem in cases(279, 10):
            for level in (0, 20, 50, 90):
                above, _ = cut_at((problem[0], (), problem[2]) if problem[0] else problem, level)
                if problem[0]:
                    expected = given_above((problem[0], (), problem[2]), level)
                    self.assertEqual((0, 0) if above is None else given_above(above, -200), expected)

    def test_both_parts_joined(self):
        # Streams that are cut are the same heat at the same levels.
        for problem in cases(280, 10):
            above, below = cut_at((problem[0][:3], problem[1], problem[2]) if problem[0] else problem, 50)
            if above is not None and below is not None:
                whole = (problem[0][:3], problem[1], problem[2])
                self.assertEqual(least_outside(joined(above, below)), least_outside(whole))
                self.assertEqual(barred_outside(joined(above, below), ()), least_outside(whole))


class TestFaults(Faults, unittest.TestCase):
    def test_problems(self):
        good = ((STREAM,), (BOX,), 10)
        for value, error in problem_faults():
            self.assert_fault(error, mirrored, value)
            for function in (moved_by, cut_at):
                self.assert_fault(error, function, value, 5)
                self.assert_fault(error, function, value, None)
            for other in (good, None, ((STREAM,), (BOX,), 11), ((STREAM,) * 6, (BOX,) * 4, 10)):
                self.assert_fault(error, joined, value, other)
            self.assert_fault(error, joined, good, value)
            self.assert_fault(error, joined, ((STREAM,) * 6, (BOX,) * 4, 10), value)

    def test_levels(self):
        for value in BAD_LEVELS:
            for function in (moved_by, cut_at):
                self.assert_fault(errors.BadLevel(), function, PROBLEM, value)
                self.assert_fault(errors.BadLevel(), function, ((), ((1000, 1), (0, 1)), 0), value)

    def test_other_gaps(self):
        for one, other in ((10, 11), (0, 100), (100, 99)):
            for many in (1, 6):
                problems = [((STREAM,) * many, (BOX,) * 4, gap) for gap in (one, other)]
                self.assert_fault(errors.OtherGap(), joined, *problems)
                self.assert_fault(errors.OtherGap(), joined, *problems[::-1])

    def test_too_many(self):
        def problem(streams, boxes):
            return ((STREAM,) * streams, (BOX,) * boxes, 10)

        for one, other, most in (
            ((6, 0), (1, 0), 6), ((1, 0), (6, 0), 6), ((4, 4), (3, 1), 6), ((6, 4), (6, 4), 6), ((3, 0), (4, 0), 6),
            ((6, 4), (0, 1), 4), ((0, 4), (0, 1), 4), ((3, 2), (3, 3), 4), ((0, 1), (6, 4), 4), ((1, 4), (1, 4), 4),
        ):
            self.assert_fault(errors.TooMany(most), joined, problem(*one), problem(*other))
        for one, other in (((6, 2), (0, 2)), ((3, 4), (3, 0)), ((0, 4), (6, 0))):
            self.assertEqual(joined(problem(*one), problem(*other)), problem(6, 4))


if __name__ == "__main__":
    unittest.main()
