"""pinchworks.supplies: point 5."""

import random
import unittest

from pinchworks import errors
from pinchworks.cascades import least_outside
from pinchworks.supplies import cheapest_supply, shows_worth, worth_paper
from tests import oracles
from tests.faults import BOX, STREAM, Faults, problem_faults, supply_faults

PROBLEM = (((180, 60, 2), (20, 100, 3)), ((100, -40),), 10)
HOTS, COLDS = ((250, 5),), ((0, 1),)


def cases(seed, many):
    """Return triples (problem, hots, colds), some of them without a cost."""
    chance = random.Random(seed)
    rows = []
    for _ in range(many):
        if chance.random() < 0.5:
            problem = oracles.random_problem(chance, 6, 4)
            degrees, price = 250, 20
        else:
            problem = oracles.random_problem(chance, 3, 3, span=9, rate=3, heat=9, gap=3)
            degrees, price = 12, 4
        hots = [(chance.randint(0, degrees), chance.randint(0, price)) for _ in range(chance.randint(1, 5))]
        colds = [(chance.randint(0, degrees), chance.randint(0, price)) for _ in range(chance.randint(1, 5))]
        if chance.random() < 0.7:
            hots[-1] = (degrees + 50, chance.randint(0, 1000))
            colds[0] = (0, chance.randint(0, 1000))
        rows.append((problem, tuple(hots), tuple(colds)))
    return rows


class TestByDefinition(unittest.TestCase):
    def test_amounts_and_papers(self):
        # Amounts that do and a paper of the same cost prove each other.
        costs = 0
        for problem, hots, colds in cases(11, 250):
            found = cheapest_supply(problem, hots, colds)
            paper = worth_paper(problem, hots, colds)
            self.assertIs(shows_worth(problem, hots, colds, paper), True)
            if found is None:
                self.assertIsNone(paper)
                continue
            costs += 1
            cost, brought, carried = found
            self.assertEqual((type(brought), type(carried)), (tuple, tuple))
            self.assertEqual((len(brought), len(carried)), (len(hots), len(colds)))
            self.assertTrue(all(type(heat) is int and heat >= 0 for heat in brought + carried))
            self.assertTrue(oracles.is_supplied(problem, hots, colds, brought, carried), (problem, hots, colds))
            prices = [price for _, price in hots + colds]
            self.assertEqual(sum(heat * price for heat, price in zip(brought + carried, prices)), cost)
            self.assertTrue(oracles.is_worth(problem, hots, colds, paper, cost), (problem, hots, colds, paper))
            self.assertTrue(all(type(worth) is int for worth in paper))
        self.assertGreater(costs, 100)

    def test_by_trying_all_amounts(self):
        chance = random.Random(12)
        without = 0
        for _ in range(40):
            problem = oracles.tiny_problem(chance, 1, 2)
            hots = tuple((chance.randint(0, 7), chance.randint(0, 3)) for _ in range(chance.randint(1, 2)))
            colds = tuple((chance.randint(0, 5), chance.randint(0, 3)) for _ in range(chance.randint(1, 2)))
            expected = oracles.cheapest_by_trying(problem, hots, colds, 5)
            found = cheapest_supply(problem, hots, colds)
            self.assertEqual(found if found is None else found[0], expected, (problem, hots, colds))
            without += expected is None
        self.assertGreater(without, 5)
        self.assertLess(without, 35)

    def test_which_papers_are_shown(self):
        shown = 0
        for problem, hots, colds in cases(13, 60):
            found = cheapest_supply(problem, hots, colds)
            if found is None:
                self.assertIs(shows_worth(problem, hots, colds, (0,) * 6), False)
                continue
            paper = worth_paper(problem, hots, colds)
            for at in range(len(paper)):
                for step in (-1, 1):
                    near = paper[:at] + (paper[at] + step,) + paper[at + 1:]
                    expected = oracles.is_worth(problem, hots, colds, near, found[0])
                    self.assertIs(shows_worth(problem, hots, colds, near), expected, (problem, hots, colds, near))
                    shown += expected
            for near in (paper[:-1], paper + (paper[-1],), list(paper), paper[::-1], None):
                is_same = near == paper
                self.assertIs(shows_worth(problem, hots, colds, near), is_same, (problem, hots, colds, near))
        self.assertGreater(shown, 20)

    def test_prices_of_one(self):
        chance = random.Random(14)
        for _ in range(60):
            problem = oracles.random_problem(chance, 6, 4)
            heating, cooling = least_outside(problem)
            cost, brought, carried = cheapest_supply(problem, ((1000, 7),), ((0, 3),)) or (None, None, None)
            lowest = min(oracles.all_levels(problem))
            if lowest < 0 and cost is None:
                continue
            self.assertEqual((cost, brought, carried), (7 * heating + 3 * cooling, (heating,), (cooling,)), problem)


class TestEdges(unittest.TestCase):
    def check(self, problem, hots, colds, expected):
        self.assertEqual(cheapest_supply(problem, hots, colds), expected)
        paper = worth_paper(problem, hots, colds)
        if expected is None:
            self.assertIsNone(paper)
        else:
            self.assertTrue(oracles.is_worth(problem, hots, colds, paper, expected[0]), paper)

    def test_one_problem(self):
        self.check(PROBLEM, HOTS, COLDS, (200, (40,), (0,)))

    def test_supply_just_high_enough(self):
        problem = ((), ((100, -7),), 10)
        self.check(problem, ((110, 2),), ((0, 1),), (14, (7,), (0,)))
        self.check(problem, ((109, 2),), ((0, 1),), None)

    def test_supply_just_low_enough(self):
        problem = ((), ((100, 7),), 10)
        self.check(problem, ((500, 2),), ((90, 1),), (7, (0,), (7,)))
        self.check(problem, ((500, 2),), ((91, 1),), None)

    def test_equal_levels(self):
        problem = ((), ((100, -7), (50, 9)), 10)
        self.check(problem, ((200, 3), (200, 2)), ((10, 5), (10, 4)), (14 + 36, (0, 7), (0, 9)))
        self.check(problem, ((110, 3), (110, 2), (110, 9)), ((40, 5), (40, 4)), (14 + 36, (0, 7, 0), (0, 9)))

    def test_cheaper_at_a_lower_level(self):
        problem = (((20, 100, 1),), (), 10)
        self.check(problem, ((110, 5), (60, 2)), ((0, 0),), (5 * 50 + 2 * 30, (50, 30), (0,)))

    def test_cheaper_at_a_higher_level(self):
        problem = (((100, 20, 1),), (), 10)
        self.check(problem, ((200, 5),), ((50, 1), (10, 4)), (40 + 160, (0,), (40, 40)))

    def test_heat_carried_off_high_up(self):
        problem = ((), ((100, 5), (20, -5)), 0)
        found = cheapest_supply(problem, ((50, 1),), ((60, 0), (0, 9)))
        self.assertEqual(found, (0, (0,), (0, 0)))
        problem = ((), ((100, 5), (20, 3)), 0)
        self.check(problem, ((50, 1),), ((60, 0), (0, 9)), (27, (0,), (5, 3)))

    def test_prices_of_zero(self):
        found = cheapest_supply(PROBLEM, ((250, 0),), ((0, 0),))
        self.assertEqual(found[0], 0)
        self.assertTrue(oracles.is_supplied(PROBLEM, ((250, 0),), ((0, 0),), found[1], found[2]))

    def test_no_amounts(self):
        self.assertIsNone(cheapest_supply(PROBLEM, ((10, 0),), ((0, 0),)))
        self.assertIsNone(worth_paper(PROBLEM, ((10, 0),), ((0, 0),)))
        self.assertIs(shows_worth(PROBLEM, ((10, 0),), ((0, 0),), None), True)
        self.assertIs(shows_worth(PROBLEM, HOTS, COLDS, None), False)
        self.assertIsNone(cheapest_supply((((50, 0, 1),), (), 10), ((500, 0),), ((0, 0),)))

    def test_worths_that_rise(self):
        problem = ((), ((100, -1), (50, -1)), 0)
        hots, colds = ((100, 4),), ((0, 1),)
        self.assertEqual(cheapest_supply(problem, hots, colds), (8, (2,), (0,)))
        self.assertIs(shows_worth(problem, hots, colds, (4, 4, 4)), True)
        self.assertIs(shows_worth(problem, hots, colds, (4, 4, -1)), True)
        self.assertIs(shows_worth(problem, hots, colds, (4, 4, 5)), False)
        self.assertIs(shows_worth(problem, hots, colds, (4, 4, -2)), False)
        self.assertIs(shows_worth(problem, hots, colds, (3, 5, 0)), False)
        self.assertIs(shows_worth(problem, hots, colds, (5, 3, 0)), False)
        self.assertIs(shows_worth(problem, hots, colds, (4, 3, 0)), False)

    def test_largest(self):
        streams = ((1000, 0, 100),) * 3 + ((0, 1000, 100),) * 3
        problem = (streams, ((1000, -10000), (0, 10000), (500, 10000), (500, -10000)), 100)
        hots = ((1000, 1000), (999, 999), (500, 3), (200, 0), (1000, 1000))
        colds = ((0, 1000), (1000, 0), (1, 999), (500, 1), (0, 1000))
        self.assertIsNone(cheapest_supply(problem, hots, colds))
        problem = (streams, ((900, -10000), (900, 10000), (500, 10000), (500, -10000)), 0)
        cost, brought, carried = cheapest_supply(problem, hots, colds)
        self.assertTrue(oracles.is_supplied(problem, hots, colds, brought, carried))
        self.assertTrue(oracles.is_worth(problem, hots, colds, worth_paper(problem, hots, colds), cost))


class TestFaults(Faults, unittest.TestCase):
    def test_problems(self):
        for value, error in problem_faults():
            self.assert_fault(error, cheapest_supply, value, HOTS, COLDS)
            self.assert_fault(error, worth_paper, value, None, None)
            self.assert_fault(error, shows_worth, value, (), True, None)

    def test_supplies(self):
        for value, error in supply_faults():
            self.assert_fault(error, cheapest_supply, PROBLEM, value, COLDS)
            self.assert_fault(error, cheapest_supply, PROBLEM, HOTS, value)
            self.assert_fault(error, worth_paper, PROBLEM, value, None)
            self.assert_fault(error, worth_paper, PROBLEM, HOTS, value)
            self.assert_fault(error, shows_worth, PROBLEM, value, ((0, -1),), 5)
            self.assert_fault(error, shows_worth, PROBLEM, HOTS, value, 5)

    def test_leftmost_first(self):
        self.assert_fault(errors.BadGap(), cheapest_supply, ((STREAM,), (BOX,), -1), None, None)
        self.assert_fault(errors.BadSupplies(1), cheapest_supply, PROBLEM, ((1, 1), 1), ())
        self.assert_fault(errors.BadSupplies(None), cheapest_supply, PROBLEM, HOTS, ())

    def test_papers(self):
        self.assert_truths(shows_worth, PROBLEM, HOTS, COLDS)
        self.assert_truths(shows_worth, PROBLEM, ((10, 0),), COLDS, but=(None,))
        problem = ((), ((1, -1),), 0)
        hots, colds = ((1, 1),), ((0, 0),)
        self.assert_truths(shows_worth, problem, hots, colds)
        for value in [(1, 1), (1, 0)]:
            self.assertIs(shows_worth(problem, hots, colds, value), True, value)
        for value in [(True, 0), (1, False), (True, True), [1, 0], (1, 0, 0), (1,), (1, "0"), (1, None), (1, -1)]:
            self.assertIs(shows_worth(problem, hots, colds, value), False, value)


if __name__ == "__main__":
    unittest.main()
