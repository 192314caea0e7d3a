"""pinchworks.targets: point 29."""

import random
import unittest

from pinchworks import errors
from pinchworks.cascades import cascade, given_above, least_outside, levels, pinches
from pinchworks.changes import cut_at
from pinchworks.supplies import cheapest_supply
from pinchworks.targets import most_at, most_from, unit_target
from pinchworks.units import fewest_units
from tests import oracles
from tests.faults import BAD_LEVELS, BOX, JUNK, Faults, problem_faults

STREAMS = ((180, 60, 2), (20, 100, 3))
PROBLEM = (STREAMS, ((100, -40),), 10)
PLACES = (most_at, most_from)


def does(problem, extra):
    """Return whether all is met with heats from outside, pairs (level, heat), and nothing is left over."""
    steps, flow = oracles.walk(problem, extra)
    return flow == 0 and all(before >= 0 and behind >= 0 for _, before, behind in steps)


def most_brought(problem, temperature):
    """Return the most of the heating that can be brought at a temperature, by trying all amounts."""
    heating, cooling = oracles.outside(problem)
    top, bottom = oracles.all_levels(problem)[0], oracles.all_levels(problem)[-1]
    fitting = [heat for heat in range(heating + 1) if does(
        problem, [(top, heating - heat), (temperature - problem[2], heat), (min(bottom, temperature - problem[2]), -cooling)]
    )]
    return max(fitting)


def most_carried(problem, temperature):
    heating, cooling = oracles.outside(problem)
    top, bottom = oracles.all_levels(problem)[0], oracles.all_levels(problem)[-1]
    fitting = [heat for heat in range(cooling + 1) if does(
        problem, [(top, heating), (temperature, -heat), (bottom, heat - cooling)]
    )]
    return max(fitting)


class TestMost(unittest.TestCase):
    def test_by_trying_all_amounts(self):
        chance = random.Random(291)
        counts = {"none": 0, "part": 0, "all": 0}
        for at in range(60):
            limits = ({"span": 60, "rate": 3, "heat": 40}, {"span": 9, "rate": 2, "heat": 9, "gap": 4})[at % 2]
            problem = oracles.random_problem(chance, 4, 3, **limits)
            heating, cooling = oracles.outside(problem)
            for temperature in {0, 1, chance.randint(0, 70), chance.randint(0, 12), chance.choice(levels(problem)) % 1001, 99}:
                for found, expected, whole in (
                    (most_at(problem, temperature), most_brought(problem, temperature), heating),
                    (most_from(problem, temperature), most_carried(problem, temperature), cooling),
                ):
                    self.assertEqual(found, expected, (problem, temperature))
                    counts["none" if found == 0 else "all" if found == whole else "part"] += 1
        self.assertGreater(min(counts.values()), 20, counts)

    def test_as_a_box(self):
        # Brought as a box, the amount takes itself from the heating; one unit more does not.
        chance = random.Random(292)
        for _ in range(60):
            problem = oracles.random_problem(chance, 6, 3)
            streams, boxes, gap = problem
            heating, cooling = least_outside(problem)
            for temperature in [chance.randint(0, 230) for _ in range(4)] + [0, 1000]:
                most, carried = most_at(problem, temperature), most_from(problem, temperature)
                if most:
                    more = (streams, boxes + ((temperature, most),), gap)
                    self.assertEqual(least_outside(more), (heating - most, cooling))
                if most < heating and temperature - gap <= levels(problem)[0]:
                    more = (streams, boxes + ((temperature, most + 1),), gap)
                    self.assertEqual(least_outside(more), (heating - most, cooling + 1))
                if carried:
                    more = (streams, boxes + ((temperature, -carried),), gap)
                    self.assertEqual(least_outside(more), (heating, cooling - carried))
                if carried < cooling:
                    more = (streams, boxes + ((temperature, -carried - 1),), gap)
                    self.assertEqual(least_outside(more), (heating + 1, cooling - carried))

    def test_by_prices(self):
        # Heat at the temperature is cheaper than at the highest level, so that the cheapest supply takes the most of it.
        chance = random.Random(293)
        seen = 0
        for _ in range(60):
            problem = oracles.random_problem(chance, 5, 3)
            heating, _ = least_outside(problem)
            for temperature in (chance.randint(0, 200), chance.randint(0, 100)):
                if min(levels(problem)) < 0 or not 0 <= temperature - problem[2] <= temperature <= levels(problem)[0]:
                    continue
                _, brought, _ = cheapest_supply(problem, ((1000, 5), (temperature, 3)), ((0, 900),))
                self.assertEqual(brought, (heating - most_at(problem, temperature), most_at(problem, temperature)))
                _, _, carried = cheapest_supply(problem, ((1000, 900),), ((0, 5), (temperature, 3)))
                self.assertEqual(carried[1], most_from(problem, temperature), (problem, temperature))
                seen += 1
        self.assertGreater(seen, 20)

    def test_of_a_problem(self):
        # Heat is lacking above the level 100 and left over below it.
        streams = ((200, 110, 1), (100, 200, 2), (110, 20, 3), (30, 100, 1))
        problem = (streams, (), 10)
        self.assertEqual(least_outside(problem), (110, 200))
        self.assertEqual(pinches(problem), (100,))
        for temperature, most in ((1000, 110), (210, 110), (209, 108), (200, 90), (199, 89), (160, 50), (111, 1), (110, 0), (0, 0)):
            self.assertEqual(most_at(problem, temperature), most, temperature)
        for temperature, most in ((1000, 0), (101, 0), (100, 0), (99, 2), (80, 40), (30, 140), (29, 143), (10, 200), (0, 200)):
            self.assertEqual(most_from(problem, temperature), most, temperature)

    def test_at_boxes(self):
        # A box that takes in heat gets it at its own level, one that gives it off gives it there.
        taken, given = ((), ((50, -7), (20, -3)), 10), ((), ((50, 7), (20, 3)), 10)
        for temperature, most in ((1000, 10), (60, 10), (59, 3), (30, 3), (29, 0), (0, 0)):
            self.assertEqual(most_at(taken, temperature), most, temperature)
            self.assertEqual(most_at(given, temperature), 0)
        for temperature, most in ((1000, 0), (41, 0), (40, 7), (11, 7), (10, 10), (0, 10)):
            self.assertEqual(most_from(given, temperature), most, temperature)
            self.assertEqual(most_from(taken, temperature), 0)

    def test_above_and_below_all_levels(self):
        chance = random.Random(294)
        for _ in range(60):
            problem = oracles.random_problem(chance, 5, 3, gap=0)
            heating, cooling = least_outside(problem)
            self.assertEqual([most_at(problem, 1000), most_from(problem, 0)], [heating, cooling])
            self.assertEqual(most_from(problem, 1000), 0)
            self.assertEqual(most_at((problem[0], problem[1], 1), 0), 0)
            self.assertEqual(most_at(problem, levels(problem)[0]), heating)
            self.assertEqual(most_from(problem, levels(problem)[-1]), cooling)

    def test_at_pinches(self):
        chance = random.Random(295)
        seen = 0
        for _ in range(60):
            problem = oracles.random_problem(chance, 6, 4)
            heating, cooling = least_outside(problem)
            for level, before, behind in cascade(problem):
                degrees = level + problem[2]
                if before == 0 and heating > 0 and degrees <= 1000:
                    # All heating is needed above the level, so that at it all comes too late.
                    self.assertEqual(most_at(problem, degrees), 0)
                    seen += 1
                if behind == 0 and cooling > 0 and level >= 0:
                    self.assertEqual(most_from(problem, level), 0)
                    seen += 1
        self.assertGreater(seen, 30)

    def test_largest(self):
        problem = (((0, 1000, 100),) * 6, ((1000, -10000),) * 4, 100)
        self.assertEqual([most_at(problem, 1000), most_at(problem, 0), most_from(problem, 0)], [540000, 0, 0])


def both_sides(problem, level):
    """Return the heats of the parts of hot and cold streams above and below a level, as lists, by slices."""
    sums = {}
    for number, at, _, heat in oracles.slices(problem):
        key = (at > level, heat > 0, number)
        sums[key] = sums.get(key, 0) + abs(heat)
    return [[[heat for key, heat in sums.items() if key[:2] == (is_above, gives)] for gives in (True, False)]
            for is_above in (True, False)]


class TestUnits(unittest.TestCase):
    def test_by_parts(self):
        chance = random.Random(296)
        kinds = {"empty": 0, "even": 0, "many": 0}
        for at in range(240):
            limits = ({}, {"span": 6, "rate": 2, "gap": 2}, {"span": 12, "rate": 1, "gap": 0})[at % 3]
            problem = oracles.random_problem(chance, 6, 0, **limits)
            level = chance.choice(levels(problem) + (chance.randint(-5, 12), chance.randint(0, 200)))
            expected = []
            for givers, takers in both_sides(problem, level):
                if sum(givers) != sum(takers):
                    (takers if sum(givers) > sum(takers) else givers).append(abs(sum(givers) - sum(takers)))
                else:
                    kinds["even" if givers else "empty"] += 1
                expected.append((givers, takers))
            if max(len(loads) for side in expected for loads in side) > 5:
                kinds["many"] += 1
                with self.assertRaises(errors.TooMany) as caught:
                    unit_target(problem, level)
                self.assertEqual(caught.exception.most, 5)
                continue
            # Only sums matter, so that greater loads than `fewest_units` takes do as well.
            self.assertEqual(unit_target(problem, level), tuple(
                len(givers) + len(takers) - oracles.most_groups(givers, takers) if givers else 0
                for givers, takers in expected
            ), (problem, level))
        self.assertGreater(min(kinds["empty"], kinds["even"]), 10, kinds)

    def test_of_a_problem(self):
        for level, expected in (
            (500, (0, 1)), (170, (0, 1)), (169, (1, 2)), (100, (1, 2)), (99, (2, 2)), (51, (2, 2)), (50, (2, 1)), (49, (2, 1)),
            (21, (2, 1)), (20, (1, 0)), (-500, (1, 0)),
        ):
            self.assertEqual(unit_target((STREAMS, (), 10), level), expected, level)

    def test_one_more_giver_or_taker(self):
        # Above the level 50: 5 and 3 are given off, 3 and 5 taken in: two groups of one each.
        problem = (((55, 50, 1), (53, 50, 1), (50, 53, 1), (50, 55, 1)), (), 0)
        self.assertEqual(unit_target(problem, 50), (2, 0))
        self.assertEqual(unit_target(problem, 49), (2, 0))
        self.assertEqual(unit_target(problem, 60), (0, 2))
        # One more degree is given off: one more taker, and then 5 + 1 in one group.
        problem = (((56, 50, 1), (53, 50, 1), (50, 53, 1), (50, 55, 1)), (), 0)
        self.assertEqual(unit_target(problem, 50), (3, 0))
        problem = (((55, 50, 1), (53, 50, 1), (50, 53, 1), (50, 57, 1)), (), 0)
        self.assertEqual(unit_target(problem, 50), (3, 0))
        # Givers alone get one taker for all.
        self.assertEqual(unit_target((((55, 50, 1), (53, 50, 1)), (), 0), 50), (2, 0))
        self.assertEqual(unit_target((((50, 55, 1), (50, 53, 1)), (), 0), 0), (2, 0))

    def test_at_a_pinch(self):
        chance = random.Random(297)
        for _ in range(60):
            problem = oracles.random_problem(chance, 4, 0, span=60, rate=2)
            heating, cooling = least_outside(problem)
            for pinch in pinches(problem):
                found = []
                for (givers, takers), heats in zip(both_sides(problem, pinch), (([heating], []), ([], [cooling]))):
                    givers, takers = [heat for heat in givers + heats[0] if heat], [heat for heat in takers + heats[1] if heat]
                    found.append(fewest_units(tuple(givers), tuple(takers)) if givers else 0)
                self.assertEqual(unit_target(problem, pinch), tuple(found), (problem, pinch))

    def test_by_cut_problems(self):
        chance = random.Random(298)
        for _ in range(40):
            problem = oracles.random_problem(chance, 4, 0)
            level = chance.randint(0, 200)
            above, below = cut_at(problem, level)
            expected = (unit_target(above, -200)[0] if above else 0, unit_target(below, 1000)[1] if below else 0)
            self.assertEqual(unit_target(problem, level), expected)

    def test_large_heats(self):
        problem = (((1000, 0, 100), (0, 1000, 100)), (), 0)
        self.assertEqual([unit_target(problem, level) for level in (0, 500, 1000)], [(1, 0), (1, 1), (0, 1)])
        problem = (((1000, 0, 100), (0, 1000, 99), (0, 1000, 1)), (), 0)
        self.assertEqual(unit_target(problem, 500), (2, 2))

    def test_sixth_giver_or_taker(self):
        fives = (((60, 50, 1),) * 5, (), 0), (((50, 60, 1),) * 5, (), 0)
        for problem in fives:
            self.assertEqual([unit_target(problem, 40), unit_target(problem, 60)], [(5, 0), (0, 5)])
        for streams in (((60, 50, 1),) * 6, ((50, 60, 1),) * 6):
            for level in (40, 50, 55, 59, 60, 70):
                with self.assertRaises(errors.TooMany) as caught:
                    unit_target((streams, (), 0), level)
                self.assertEqual(caught.exception.most, 5)
        # The sixth one is what balances the side.
        for streams, fits in (
            (((60, 50, 1),) * 5 + ((50, 60, 5),), True), (((60, 50, 1),) * 5 + ((50, 60, 4),), True),
            (((60, 50, 1),) * 5 + ((50, 60, 6),), False), (((50, 60, 1),) * 5 + ((60, 50, 5),), True),
            (((50, 60, 1),) * 5 + ((60, 50, 4),), True), (((50, 60, 1),) * 5 + ((60, 50, 6),), False),
        ):
            for level, at in ((40, 0), (70, 1)):
                if fits:
                    self.assertGreater(unit_target((streams, (), 0), level)[at], 4)
                else:
                    with self.assertRaises(errors.TooMany):
                        unit_target((streams, (), 0), level)


class TestFaults(Faults, unittest.TestCase):
    def test_problems(self):
        for value, error in problem_faults():
            for function in (most_at, most_from, unit_target):
                self.assert_fault(error, function, value, 50)
                self.assert_fault(error, function, value, None)

    def test_temperatures(self):
        for value in JUNK + [-1, 1001]:
            if not isinstance(value, int) or isinstance(value, bool) or not 0 <= value <= 1000:
                for function in PLACES:
                    self.assert_fault(errors.BadLevel(), function, PROBLEM, value)
        for value in (0, 1, 999, 1000):
            for function in PLACES:
                self.assertGreaterEqual(function(PROBLEM, value), 0)

    def test_levels(self):
        for value in BAD_LEVELS:
            self.assert_fault(errors.BadLevel(), unit_target, (STREAMS, (), 10), value)
            self.assert_fault(errors.BadLevel(), unit_target, (STREAMS[:1] * 6, (), 10), value)
        for value in (-10 ** 30, -1, 1001, 10 ** 30):
            self.assertEqual(0 in unit_target((STREAMS, (), 10), value), True)

    def test_boxes(self):
        for value in (50, None, "50"):
            self.assert_fault(errors.HasBoxes(), unit_target, PROBLEM, value)
            self.assert_fault(errors.HasBoxes(), unit_target, (STREAMS[:1] * 6, (BOX,), 10), value)

    def test_too_many(self):
        for level in (-100, 0, 100, 10 ** 30):
            self.assert_fault(errors.TooMany(5), unit_target, (STREAMS[:1] * 6, (), 10), level)

    def test_heat_above(self):
        # Above a level a problem lacks what it takes in there less what it gives off.
        given, taken = given_above((STREAMS, (), 10), 50)
        self.assertEqual(unit_target((STREAMS, (), 10), 50), (fewest_units((given,), (taken, given - taken)), 1))


if __name__ == "__main__":
    unittest.main()
