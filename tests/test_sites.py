"""pinchworks.sites: points 24 and 25."""

import itertools
import random
import unittest

from pinchworks import errors
from pinchworks.cascades import least_outside
from pinchworks.sites import best_shifts, site_outside
from tests import oracles
from tests.faults import BOX, COLUMN, JUNK, STREAM, Faults, column_faults, mains_faults, period_faults, problem_faults
from tests.test_storing import random_periods

PROBLEM = (((180, 60, 2), (20, 100, 3)), ((100, -40),), 10)
STREAMS = PROBLEM[0]
LARGEST = (((1000, 0, 100),) * 3 + ((0, 1000, 100),) * 3, (), 100)
HOT, COLD = (((100, 50, 1),), (), 10), (((40, 90, 1),), (), 10)


def random_column(chance, span, heat):
    bottom, top = sorted(chance.sample(range(span + 1), 2))
    return (top, bottom, chance.randint(1, heat))


def boxes_of(columns, shifts):
    found = []
    for (top, bottom, heat), shift in zip(columns, shifts):
        found += [(top + shift, -heat), (bottom + shift, heat)]
    return tuple(found)


def shifts_one_by_one(problem, columns, low, high):
    """Return the smallest best shifts with their heating, by trying all, or None."""
    streams, boxes, gap = problem
    best = None
    for shifts in itertools.product(range(low, high + 1), repeat=len(columns)):
        more = boxes_of(columns, shifts)
        if all(0 <= temperature <= 1000 for temperature, _ in more):
            heating, _ = least_outside((streams, boxes + more, gap))
            if best is None or heating < best[1]:
                best = (shifts, heating)
    return best


class TestColumns(unittest.TestCase):
    def check(self, problem, columns, low, high):
        expected = shifts_one_by_one(problem, columns, low, high)
        found = best_shifts(problem, columns, low, high)
        self.assertEqual(found, expected, (problem, columns, low, high))
        return found

    def test_shifts_one_by_one(self):
        chance = random.Random(241)
        counts = {"low": 0, "inside": 0, "other": 0}
        for at in range(120):
            most = chance.choice((1, 2))
            span, heat, rate = ((200, 300, 9), (40, 60, 3), (9, 9, 2))[at % 3]
            problem = oracles.random_problem(chance, 5, 4 - 2 * most, span=span, heat=heat, rate=rate, gap=span // 8)
            columns = tuple(random_column(chance, span, heat) for _ in range(most))
            low = chance.randint(-12, 8)
            found = self.check(problem, columns, low, low + chance.randint(0, 12 if most == 1 else 6))
            kind = "other" if found is None else "low" if set(found[0]) == {low} else "inside"
            counts[kind] += 1
        self.assertGreater(min(counts.values()), 5, counts)

    def test_by_degrees(self):
        chance = random.Random(242)
        for _ in range(20):
            streams, boxes, gap = oracles.random_problem(chance, 4, 2)
            columns = (random_column(chance, 150, 300),)
            shifts, heating = best_shifts((streams, boxes, gap), columns, 0, 50)
            self.assertEqual(oracles.outside((streams, boxes + boxes_of(columns, shifts), gap))[0], heating)

    def test_all_shifts(self):
        chance = random.Random(243)
        for _ in range(6):
            problem = oracles.random_problem(chance, 6, 2)
            self.check(problem, (random_column(chance, 200, 900),), -50, 50)
        self.check((STREAMS, (), 10), ((150, 100, 90), (60, 30, 50)), -25, 25)

    def test_smallest_of_equal_ones(self):
        self.assertEqual(best_shifts((STREAMS, (), 10), ((120, 100, 10),), -5, 5), ((-5,), 0))
        self.assertEqual(best_shifts((STREAMS, (), 10), ((120, 100, 10), (120, 100, 10)), -5, 5), ((-5, -5), 0))
        self.assertEqual(best_shifts((STREAMS, (), 10), ((120, 100, 10),), 3, 3), ((3,), 0))
        self.assertEqual(best_shifts(PROBLEM, ((120, 100, 10),), 3, 3), ((3,), 40))
        # What the second column gives off serves the first one anywhere.
        self.assertEqual(best_shifts((((5, 1, 1),), (), 0), ((30, 20, 10), (120, 100, 7)), -5, 5), ((-5, -5), 10))

    def test_one_column_within_the_other(self):
        # What the first one gives off serves the second one if it stands higher by the gap.
        problem, columns = (((5, 1, 1),), (), 5), ((120, 100, 10), (100, 80, 10))
        self.assertEqual(best_shifts(problem, columns, 0, 9), ((5, 0), 10))
        self.assertEqual(best_shifts(problem, columns, 0, 5), ((5, 0), 10))
        self.assertEqual(best_shifts(problem, columns, 0, 4), ((0, 0), 20))
        self.assertEqual(best_shifts(problem, columns, -9, 9), ((-4, -9), 10))
        self.assertEqual(best_shifts((problem[0], (), 0), columns, 0, 9), ((0, 0), 10))

    def test_ranges(self):
        for low, high in ((0, 50), (0, 0), (-50, 0), (-1, 0), (-1, -1), (2, 3), (-50, -2)):
            self.check(LARGEST, ((1000, 1, 5), (999, 998, 7)), low, high)
        problem = (STREAMS, (), 10)
        for column, low, high, expected in (
            ((1000, 0, 5), -50, 50, (0,)), ((1000, 0, 5), 1, 50, None), ((1000, 0, 5), -50, -1, None),
            ((1000, 1, 5), 0, 50, (0,)), ((999, 0, 5), 0, 50, (0,)), ((999, 0, 5), 2, 50, None), ((999, 0, 5), 1, 50, (1,)),
            ((1000, 1, 5), -50, -2, None), ((1000, 1, 5), -50, -1, (-1,)), ((951, 900, 5), 50, 50, None),
            ((950, 900, 5), 50, 50, (50,)), ((80, 50, 5), -50, -50, (-50,)), ((80, 49, 5), -50, -50, None),
        ):
            found = best_shifts(problem, (column,), low, high)
            self.assertEqual(None if found is None else found[0], expected, (column, low, high))
            other = best_shifts(problem, ((500, 400, 1), column), low, high)
            self.assertEqual(other is None, expected is None)
            self.assertEqual(best_shifts(problem, (column, (500, 400, 1)), low, high) is None, expected is None)

    def test_largest(self):
        columns = ((1000, 0, 10000), (1000, 0, 1))
        heating = least_outside((LARGEST[0], boxes_of(columns, (0, 0)), 100))[0]
        self.assertEqual(best_shifts(LARGEST, columns, -50, 50), ((0, 0), heating))
        self.check(LARGEST, ((700, 600, 10000),), -50, 50)


def slices_of_plants(problems):
    """Return two dicts (plant, spot): heat; a spot is twice the level of a box, and less by 1 for a slice below it."""
    given, taken = {}, {}
    for plant, problem in enumerate(problems):
        for _, level, is_box, heat in oracles.slices(problem):
            table = given if heat > 0 else taken
            key = (plant, 2 * level - (not is_box))
            table[key] = table.get(key, 0) + abs(heat)
    return given, taken


def may_give(giver, taker, mains, gap):
    """Return whether heat may be passed on between two spots of plants."""
    if giver[0] == taker[0]:
        return giver[1] >= taker[1]
    return any(giver[1] >= 2 * main and 2 * (main - gap) >= taker[1] for main in mains)


def most_passed(given, taken, ways):
    """Return the most heat that can be sent: ways from takers found backward, one after another."""
    passed, left = {}, dict(given)
    wanted = dict(taken)
    for taker in taken:
        while wanted[taker] > 0:
            # A row of spots from this taker to a giver that has heat left, over heat that is taken back.
            before, queue = {taker: None}, [taker]
            end = None
            while queue and end is None:
                spot = queue.pop(0)
                for giver in ways[spot]:
                    if giver not in before:
                        before[giver] = spot
                        if left[giver] > 0:
                            end = giver
                            break
                        for other in [one for (source, one), heat in passed.items() if source == giver and heat > 0]:
                            if other not in before:
                                before[other] = giver
                                queue.append(other)
            if end is None:
                break
            row = [end]
            while before[row[-1]] is not None:
                row.append(before[row[-1]])
            back = [passed[(row[at + 1], row[at])] for at in range(1, len(row) - 1, 2)]
            heat = min([left[end], wanted[taker]] + back)
            for at in range(0, len(row), 2):
                passed[(row[at], row[at + 1])] = passed.get((row[at], row[at + 1]), 0) + heat
            for at in range(1, len(row) - 1, 2):
                passed[(row[at + 1], row[at])] -= heat
            left[end] -= heat
            wanted[taker] -= heat
    return sum(taken.values()) - sum(wanted.values())


def site_by_degrees(problems, mains):
    given, taken = slices_of_plants(problems)
    gap = problems[0][2]
    # Two tables, so that a spot at which a plant both gives and takes is two things.
    givers = {("give",) + spot: heat for spot, heat in given.items()}
    takers = {("take",) + spot: heat for spot, heat in taken.items()}
    ways = {taker: [giver for giver in givers if may_give(giver[1:], taker[1:], mains, gap)] for taker in takers}
    passed = most_passed(givers, takers, ways)
    return (sum(taken.values()) - passed, sum(given.values()) - passed)


class TestSites(unittest.TestCase):
    def test_by_degrees(self):
        chance = random.Random(251)
        helped = 0
        for at in range(150):
            span = (12, 20, 8)[at % 3]
            problems = random_periods(chance, 4, 3, (3, 0, 4)[at % 3], span=span, rate=3, heat=12, gap=3)
            mains = tuple(sorted(chance.sample(range(span + 1), chance.randint(0, 5))))
            expected = site_by_degrees(problems, mains)
            self.assertEqual(site_outside(problems, mains), expected, (problems, mains))
            helped += expected[0] < sum(least_outside(problem)[0] for problem in problems)
        self.assertGreater(helped, 30)

    def test_no_mains(self):
        chance = random.Random(252)
        for _ in range(60):
            problems = random_periods(chance, 4, 6, 4)
            apart = [least_outside(problem) for problem in problems]
            self.assertEqual(site_outside(problems, ()), tuple(sum(pair[at] for pair in apart) for at in (0, 1)))

    def test_one_plant(self):
        chance = random.Random(253)
        for _ in range(40):
            problem = oracles.random_problem(chance, 6, 4)
            mains = tuple(sorted(chance.sample(range(200), chance.randint(0, 5))))
            self.assertEqual(site_outside((problem,), mains), least_outside(problem))

    def test_more_mains_never_need_more(self):
        chance = random.Random(254)
        for _ in range(30):
            problems = random_periods(chance, 4, 6, 4)
            mains = tuple(sorted(chance.sample(range(200), 5)))
            heatings = [site_outside(problems, mains[:many])[0] for many in range(6)]
            self.assertEqual(heatings, sorted(heatings, reverse=True))
            together = [body for problem in problems for body in oracles.slices(problem)]
            heating = max(oracles.lack(together, level, is_open) for level in range(-40, 201) for is_open in (False, True))
            self.assertGreaterEqual(heatings[-1], heating)

    def test_one_main(self):
        # The hot stream's levels are 90 to 40; of these what is not below the main is taken over,
        # and the cold stream gets it up to the main less the gap.
        for main, passed in ((39, 0), (40, 0), (49, 0), (50, 0), (51, 1), (60, 10), (70, 20), (71, 19), (80, 10), (90, 0), (91, 0)):
            self.assertEqual(site_outside((HOT, COLD), (main,)), (50 - passed, 50 - passed), main)
            self.assertEqual(site_outside((COLD, HOT), (main,)), (50 - passed, 50 - passed), main)
        # Two mains serve the takers up to 60, and three of them 10 degrees more.
        self.assertEqual(site_outside((HOT, COLD), (60, 70)), (30, 30))
        self.assertEqual(site_outside((HOT, COLD), (60, 70, 80)), (20, 20))
        mains = (60, 65, 70, 75, 80)
        self.assertEqual(site_outside((HOT, COLD), mains), site_by_degrees((HOT, COLD), mains))

    def test_boxes_at_the_edges_of_mains(self):
        # The giver's level is 50; the main steps down by the gap of 10 to the taker.
        given = ((), ((60, 5),), 10)
        for main, temperature, heating in ((50, 40, 0), (50, 41, 5), (51, 40, 5), (51, 41, 5), (49, 39, 0), (49, 40, 5), (50, 0, 0)):
            taken = ((), ((temperature, -5),), 10)
            self.assertEqual(site_outside((given, taken), (main,)), (heating, heating), (main, temperature))
        # Without a gap there is no step.
        given, taken = ((), ((60, 5),), 0), ((), ((60, -5),), 0)
        for main, heating in ((59, 5), (60, 0), (61, 5)):
            self.assertEqual(site_outside((given, taken), (main,)), (heating, heating))

    def test_within_a_plant_no_step_is_needed(self):
        both = ((), ((60, 5), (50, -5)), 10)
        self.assertEqual(site_outside((both, both), (50,)), (0, 0))
        self.assertEqual(site_outside((both, both), ()), (0, 0))

    def test_gap_of_a_hundred(self):
        given, taken = ((), ((1000, 9),), 100), ((), ((800, -9), (801, -9)), 100)
        for main, heating in ((900, 9), (899, 18), (901, 18)):
            self.assertEqual(site_outside((given, taken), (main,)), (heating, heating - 9))
        # A main below the gap serves no taker at a temperature from 0 on, but one at the gap does.
        given = ((), ((200, 9),), 100)
        for main, heating in ((99, 9), (100, 0), (101, 9)):
            self.assertEqual(site_outside((given, ((), ((0, -9),), 100)), (main,)), (heating, heating))

    def test_heat_of_two_plants(self):
        given = ((), ((60, 5),), 0)
        taken = ((), ((50, -7),), 0)
        self.assertEqual(site_outside((given, given, taken), (55,)), (0, 3))
        self.assertEqual(site_outside((given, taken, given, taken), (55,)), (4, 0))
        self.assertEqual(site_outside((given, taken, given, taken), (0, 45, 61, 1000)), (14, 10))

    def test_largest(self):
        for mains in ((), (0, 250, 500, 750, 1000), (996, 997, 998, 999, 1000)):
            heating, cooling = site_outside((LARGEST,) * 4, mains)
            self.assertEqual(heating - cooling, 0)
            self.assertEqual(heating, 4 * least_outside(LARGEST)[0])
        givers, takers = (((1000, 0, 100),) * 6, (), 0), (((0, 1000, 100),) * 6, (), 0)
        self.assertEqual(site_outside((givers, takers, givers, takers), (500,)), (600000, 600000))
        self.assertEqual(site_outside((givers, takers, givers, takers), (200, 400, 600, 800, 1000)), (240000, 240000))


class TestFaults(Faults, unittest.TestCase):
    def test_problems(self):
        for value, error in problem_faults():
            self.assert_fault(error, best_shifts, value, (COLUMN,), -5, 5)
            self.assert_fault(error, best_shifts, value, None, None, None)

    def test_columns(self):
        for value, error in column_faults():
            self.assert_fault(error, best_shifts, PROBLEM, value, -5, 5)
            self.assert_fault(error, best_shifts, PROBLEM, value, 5, -5)
            self.assert_fault(error, best_shifts, (STREAMS, (BOX,) * 4, 10), value, None, -5)

    def test_levels(self):
        for value in JUNK + [-51, 51]:
            if not isinstance(value, int) or isinstance(value, bool) or abs(value) > 50:
                self.assert_fault(errors.BadLevel(), best_shifts, PROBLEM, (COLUMN,), value, 50)
                self.assert_fault(errors.BadLevel(), best_shifts, PROBLEM, (COLUMN,), -50, value)
                self.assert_fault(errors.BadLevel(), best_shifts, (STREAMS, (BOX,) * 4, 10), (COLUMN,), value, value)
        for low, high in ((1, 0), (50, -50), (50, 49), (-49, -50)):
            self.assert_fault(errors.BadLevel(), best_shifts, PROBLEM, (COLUMN,), low, high)
        for low, high in ((-50, 50), (50, 50), (-50, -50), (0, 0)):
            self.assertEqual(best_shifts(PROBLEM, (COLUMN,), low, high)[0], (low,))

    def test_too_many(self):
        for own, many in ((1, 2), (2, 2), (3, 1), (3, 2), (4, 1)):
            problem = (STREAMS, (BOX,) * own, 10)
            self.assert_fault(errors.TooMany(4), best_shifts, problem, (COLUMN,) * many, 0, 5)
            # Told ahead of that no shifts let these columns stay, but behind all other errors.
            self.assert_fault(errors.TooMany(4), best_shifts, problem, ((1000, 0, 5),) * many, 1, 5)
            self.assert_fault(errors.BadLevel(), best_shifts, problem, (COLUMN,) * many, 5, 0)
            self.assert_fault(errors.BadColumns(0), best_shifts, problem, (None,) * many, 0, 5)
        for own, many in ((0, 2), (2, 1), (1, 1)):
            self.assertIsNone(best_shifts((STREAMS, (BOX,) * own, 10), ((1000, 0, 5),) * many, 1, 5))
            self.assertIsNotNone(best_shifts((STREAMS, (BOX,) * own, 10), (COLUMN,) * many, 0, 5))

    def test_plants(self):
        for value, error in period_faults():
            self.assert_fault(error, site_outside, value, (5,))
            self.assert_fault(error, site_outside, value, None)

    def test_mains(self):
        for value in mains_faults():
            self.assert_fault(errors.BadMains(), site_outside, (HOT, COLD), value)
            self.assert_fault(errors.BadMains(), site_outside, (((STREAM,), (BOX,), 10),), value)
        for value in ((), (0,), (1000,), (0, 1000), (1, 2, 3, 4, 5), (996, 997, 998, 999, 1000)):
            self.assertEqual(len(site_outside((HOT, COLD), value)), 2)


if __name__ == "__main__":
    unittest.main()
