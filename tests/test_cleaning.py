"""pinchworks.cleaning: point 16."""

import random
import unittest
from fractions import Fraction

from pinchworks import errors
from pinchworks.cleaning import cleaned_cost, cleaned_plan, cleaning_paper
from pinchworks.water import least_fresh
from tests.faults import JUNK, Faults, water_faults
from tests.test_water import as_fractions, is_ratio, random_water, table_of

ALL = (cleaned_cost, cleaned_plan, cleaning_paper)
ONE = (((50, 500),), ((50, 10),))


def cases(seed, many):
    """Return tuples (water, dirt, fresh price, price): dear and cheap, clean and dirty."""
    chance = random.Random(seed)
    rows = []
    for _ in range(many):
        rows.append((random_water(chance), chance.randint(0, 1000), chance.randint(0, 1000), chance.randint(0, 1000)))
        rows.append((random_water(chance), chance.randint(0, 300), chance.randint(0, 20), chance.randint(0, 10)))
        rows.append((random_water(chance, 3, 9, 6), chance.randint(0, 4), chance.randint(0, 3), chance.randint(0, 2)))
    return rows


def cost_of(case, value):
    """Return the cost of a plan, or None if it is none."""
    (sources, sinks), dirt, fresh_price, price = case
    if type(value) is not tuple or len(value) != 4:
        return None
    rows = [table_of(value[0], len(sources), len(sinks))]
    rows += [table_of((part,), 1, many) for part, many in zip(value[1:], (len(sinks), len(sources), len(sinks)))]
    if None in rows:
        return None
    table, (fresh,), (sent,), (cleaned,) = rows
    if sum(sent) != sum(cleaned):
        return None
    if any(sum(row) + own > flow for (flow, _), row, own in zip(sources, table, sent)):
        return None
    for sink, (flow, most) in enumerate(sinks):
        if sum(row[sink] for row in table) + fresh[sink] + cleaned[sink] != flow:
            return None
        foul = sum(row[sink] * own for row, (_, own) in zip(table, sources)) + cleaned[sink] * dirt
        if foul > flow * most:
            return None
    return sum(fresh) * fresh_price + sum(cleaned) * price


def worth_of(case, value):
    """Return the cost that a paper shows to be needed at least, or None if it is no paper."""
    (sources, sinks), dirt, fresh_price, price = case
    if type(value) is not tuple or len(value) != 4 or any(type(side) is not tuple for side in value):
        return None
    if [len(side) for side in value[:3]] != [len(sinks), len(sinks), len(sources)] or not is_ratio(value[3]):
        return None
    a, b, c = map(as_fractions, value[:3])
    e = Fraction(*value[3])
    if a is None or b is None or c is None or min(b + c) < 0 or max(a) > fresh_price or min(c) < -e:
        return None
    for sink in range(len(sinks)):
        limits = [b[sink] * own + worth for (_, own), worth in zip(sources, c)]
        if a[sink] > min(limits + [b[sink] * dirt + price - e]):
            return None
    total = sum(flow * (a[sink] - most * b[sink]) for sink, (flow, most) in enumerate(sinks))
    return total - sum(flow * worth for (flow, _), worth in zip(sources, c))


class TestCosts(unittest.TestCase):
    def check(self, case, expected=None):
        """Check that a plan and a paper prove the cost, and return whether the plan uses the cleaner."""
        cost = cleaned_cost(*case)
        self.assertTrue(is_ratio(cost), case)
        plan, paper = cleaned_plan(*case), cleaning_paper(*case)
        self.assertEqual(cost_of(case, plan), Fraction(*cost), (case, plan))
        self.assertEqual(worth_of(case, paper), Fraction(*cost), (case, paper))
        if expected is not None:
            self.assertEqual(Fraction(*cost), expected, case)
        return any(flow[0] for flow in plan[2])

    def test_plans_and_papers(self):
        # A plan with a cost and a paper of the same cost prove each other.
        used = [self.check(case) for case in cases(161, 100)]
        self.assertGreater(used.count(True), 25)
        self.assertGreater(used.count(False), 50)

    def test_cheap_and_dear(self):
        # One part in fifty of the source's own water goes with fresh water.
        for price in range(8):
            self.check((ONE, 10, 3, price), min(50 * price, 147))
        self.assertIs(self.check((ONE, 10, 3, 1)), True)
        self.assertIs(self.check((ONE, 10, 3, 5)), False)

    def test_without_use_of_the_cleaner(self):
        for water, dirt, fresh_price, _ in cases(162, 30):
            # Cleaning for as much as fresh water costs never serves.
            self.check((water, dirt, fresh_price, 1000), fresh_price * Fraction(*least_fresh(water)))
            self.check((water, dirt, fresh_price, fresh_price), fresh_price * Fraction(*least_fresh(water)))

    def test_free_of_dirt_behind_the_cleaner(self):
        for water, _, _, _ in cases(163, 20):
            given, wanted = (sum(flow for flow, _ in side) for side in water)
            self.check((water, 0, 7, 0), 7 * max(0, wanted - given))

    def test_prices_of_zero(self):
        for water, dirt, fresh_price, price in cases(164, 20):
            self.check((water, dirt, 0, price), 0)
            self.check((water, dirt, 0, 0), 0)
            self.check((water, dirt, fresh_price, 0))

    def test_a_cleaner_dirtier_than_a_source(self):
        # Only the second source gains by it.
        water = (((10, 5), (10, 100)), ((20, 20),))
        self.check((water, 30, 4, 1), Fraction(65, 7))
        plan = cleaned_plan(water, 30, 4, 1)
        self.assertEqual(plan[2][0], (0, 1))
        water = (((50, 10),), ((50, 10),))
        self.assertIs(self.check((water, 1000, 4, 1), 0), False)
        self.assertIs(self.check((water, 1000, 4, 0), 0), False)

    def test_cleaned_for_a_part_alone(self):
        # Half of the water has to be cleaned, so that the average is just met.
        water = (((100, 100),), ((100, 50),))
        self.check((water, 0, 9, 2), 100)
        self.check((water, 20, 9, 2), 125)
        self.check((water, 50, 9, 2), 200)
        self.check((water, 51, 9, 2), Fraction(2 * 5000 + 9 * 100, 51))

    def test_dirt_in_no_sink(self):
        self.check(((((50, 500),), ((50, 0),)), 1, 3, 1), 150)
        self.check(((((50, 500),), ((50, 0),)), 0, 3, 1), 50)
        self.check(((((30, 500),), ((50, 0),)), 0, 3, 1), 90)

    def test_largest(self):
        water = (((1000, 1000), (999, 997), (1000, 991), (983, 1)), ((1000, 7), (997, 991), (5, 1000), (1000, 0)))
        for prices in ((1000, 1000), (1000, 999), (1000, 0), (0, 1000), (1, 1000)):
            for dirt in (0, 1, 6, 7, 8, 1000):
                self.check((water, dirt, *prices))
        self.check(((((1000, 1000),) * 4, ((1000, 0),) * 4), 0, 1000, 1000), 4000000)


class TestFaults(Faults, unittest.TestCase):
    def test_water(self):
        for value, error in water_faults():
            for function in ALL:
                self.assert_fault(error, function, value, 10, 3, 1)
                self.assert_fault(error, function, value, None, None, None)

    def test_dirt(self):
        for value in JUNK + [-1, 1001, True, "10", (10,), [10]]:
            if value not in (0, 1, 2, 5, 100) or isinstance(value, bool):
                for function in ALL:
                    self.assert_fault(errors.BadDirt(), function, ONE, value, 3, 1)
                    self.assert_fault(errors.BadDirt(), function, ONE, value, None, -1)

    def test_prices(self):
        for value in JUNK + [-1, 1001, True, "10", (10,), [10]]:
            if value not in (0, 1, 2, 5, 100) or isinstance(value, bool):
                for function in ALL:
                    self.assert_fault(errors.BadPrice(), function, ONE, 10, value, 1)
                    self.assert_fault(errors.BadPrice(), function, ONE, 10, 3, value)

    def test_limits(self):
        for dirt, fresh_price, price in ((0, 0, 0), (1000, 1000, 1000)):
            for function in ALL:
                self.assertIsInstance(function(ONE, dirt, fresh_price, price), tuple)


if __name__ == "__main__":
    unittest.main()
