"""pinchworks.programs and pinchworks.ratios: what serves several points."""

import itertools
import random
import unittest
from fractions import Fraction

from pinchworks.programs import solve
from pinchworks.ratios import is_at_most, is_ratio, least, minus, plus, ratio, times, total
from tests.faults import JUNK


def random_program(chance):
    """Return a program: rows with small factors and often a sum of 0, and a unit of an own amount in each row."""
    many, height = chance.randint(1, 4), chance.randint(1, 3)
    rows = []
    for at in range(height):
        factors = [chance.choice((0, 0, 1, -1, 2, 3, -4)) for _ in range(many)]
        rows.append(factors + [int(at == one) for one in range(height)] + [chance.choice((0, 0, 1, 5))])
    costs = [chance.randint(0, 4) for _ in range(many)] + [chance.randint(0, 9) for _ in range(height)]
    return rows, costs, list(range(many, many + height))


def solved(columns, sums):
    """Return the only solution of equations with as many columns as rows, or None."""
    rows = [[Fraction(column[at]) for column in columns] + [Fraction(sums[at])] for at in range(len(sums))]
    for at in range(len(rows)):
        held = [row for row in rows[at:] if row[at] != 0]
        if not held:
            return None
        rows.remove(held[0])
        rows.insert(at, [part / held[0][at] for part in held[0]])
        for other in range(len(rows)):
            if other != at:
                factor = rows[other][at]
                rows[other] = [part - factor * own for part, own in zip(rows[other], rows[at])]
    return [row[-1] for row in rows]


def least_of_all_corners(rows, costs):
    """Return the least cost over all ways to hold as many amounts as there are rows."""
    sums = [row[-1] for row in rows]
    found = []
    for held in itertools.combinations(range(len(costs)), len(rows)):
        amounts = solved([[row[column] for row in rows] for column in held], sums)
        if amounts is not None and min(amounts) >= 0:
            found.append(sum(costs[column] * amount for column, amount in zip(held, amounts)))
    return min(found)


class TestPrograms(unittest.TestCase):
    def check(self, rows, costs, basis):
        cost, amounts, spare = solve(rows, costs, basis)
        self.assertTrue(all(is_ratio(part) for part in [cost, *amounts, *spare]))
        amounts, spare = [Fraction(*part) for part in amounts], [Fraction(*part) for part in spare]
        for row in rows:
            self.assertEqual(sum(factor * amount for factor, amount in zip(row, amounts)), row[-1])
        self.assertGreaterEqual(min(amounts + spare), 0)
        self.assertEqual(sum(price * amount for price, amount in zip(costs, amounts)), Fraction(*cost))
        # A row is worth what its own amount costs less what that costs too much.
        worths = [costs[column] - spare[column] for column in basis]
        for column, price in enumerate(costs):
            used = sum(worth * row[column] for worth, row in zip(worths, rows))
            self.assertEqual(price - used, spare[column])
        return Fraction(*cost)

    def test_by_trying_all_corners(self):
        chance = random.Random(191)
        found = set()
        for _ in range(400):
            rows, costs, basis = random_program(chance)
            before = str((rows, costs, basis))
            cost = self.check(rows, costs, basis)
            self.assertEqual(cost, least_of_all_corners(rows, costs), (rows, costs))
            self.assertEqual(before, str((rows, costs, basis)))
            found.add(cost)
        self.assertGreater(len(found), 40)

    def test_steps_without_gain_come_to_an_end(self):
        # E. Beale 1955: with the greatest gain first, the same steps come again and again.
        rows = [
            [1, 0, 0, 1, -32, -4, 36, 0],
            [0, 1, 0, 1, -24, -1, 6, 0],
            [0, 0, 1, 0, 0, 1, 0, 1],
        ]
        self.assertEqual(self.check(rows, [0, 0, 0, -3, 80, -2, 24], [0, 1, 2]), -5)


class TestRatios(unittest.TestCase):
    def test_which_values_are_ratios(self):
        for value in [(0, 1), (1, 1), (-1, 1), (7, 3), (-7, 3), (3, 7), (10 ** 40, 1), (1, 10 ** 40)]:
            self.assertIs(is_ratio(value), True, value)
        wrong = [(0, -1), (0, 0), (1, 0), (-1, 0), (0, 2), (2, 2), (4, 6), (1, -1), (-1, -1), (True, 1), (1, True)]
        wrong += [[1, 1], (1,), (1, 1, 1), (1, "1"), (1, None), ("1", 1), 1, "11", {1: 1}]
        for value in wrong + [value for value in JUNK if value not in ((1, 2), (0, 1))]:
            self.assertIs(is_ratio(value), False, value)

    def test_sums(self):
        chance = random.Random(192)
        for _ in range(200):
            parts = [Fraction(chance.randint(-20, 20), chance.randint(1, 9)) for _ in range(3)]
            whole = chance.randint(-9, 9)
            some = [(part.numerator, part.denominator) for part in parts]
            for found, expected in (
                (plus(some[0], some[1]), parts[0] + parts[1]),
                (minus(some[0], some[1]), parts[0] - parts[1]),
                (times(some[0], whole), parts[0] * whole),
                (total(some), sum(parts)),
                (least(some), min(parts)),
                (ratio(some[0][0] * 6, some[0][1] * 6), parts[0]),
            ):
                self.assertEqual(found, (expected.numerator, expected.denominator))
            self.assertIs(is_at_most(some[0], some[1]), parts[0] <= parts[1])
        self.assertEqual(total([]), (0, 1))


if __name__ == "__main__":
    unittest.main()
