"""pinchworks.units: point 7."""

import itertools
import random
import unittest

from pinchworks import errors
from pinchworks.units import balanced_groups, fewest_matches, fewest_units, match_set, shows_groups, unit_table
from tests import oracles
from tests.faults import LOADS_FAULTS, Faults, problem_faults

OF_LOADS = (fewest_units, unit_table, balanced_groups)


def split(chance, total, many):
    """Return a tuple of so many positive integers with this sum."""
    cuts = sorted(chance.sample(range(1, total), many - 1))
    return tuple(upper - lower for lower, upper in zip([0] + cuts, cuts + [total]))


def loads(seed, many, most=5, heat=12):
    """Return pairs of loads with equal sums."""
    chance = random.Random(seed)
    rows = []
    for _ in range(many):
        total = chance.randint(most, heat)
        rows.append((split(chance, total, chance.randint(1, most)), split(chance, total, chance.randint(1, most))))
    return rows


class TestUnits(unittest.TestCase):
    def check_table(self, givers, takers, table, many):
        self.assertEqual((type(table), {type(row) for row in table}), (tuple, {tuple}))
        self.assertEqual(tuple(sum(row) for row in table), givers)
        self.assertEqual(tuple(sum(column) for column in zip(*table)), takers)
        self.assertTrue(all(type(load) is int and load >= 0 for row in table for load in row))
        self.assertEqual(oracles.entries(table), many, (givers, takers, table))

    def test_by_trying_all_tables(self):
        for givers, takers in loads(31, 80, most=3, heat=9):
            expected = min(oracles.entries(table) for table in oracles.tables(givers, takers))
            self.assertEqual(fewest_units(givers, takers), expected, (givers, takers))
            self.check_table(givers, takers, unit_table(givers, takers), expected)

    def test_by_trying_all_groups(self):
        for givers, takers in loads(32, 25, most=4, heat=14):
            expected = oracles.most_groups(givers, takers)
            groups = balanced_groups(givers, takers)
            self.assertEqual(len(groups), expected, (givers, takers))
            self.assertEqual(fewest_units(givers, takers), len(givers) + len(takers) - expected)

    def test_five_and_five(self):
        for givers, takers in loads(33, 60) + loads(34, 40, heat=500):
            groups = balanced_groups(givers, takers)
            self.assertTrue(oracles.is_grouping(givers, takers, groups), (givers, takers, groups))
            self.assertIs(shows_groups(givers, takers, groups), True)
            self.assertEqual(fewest_units(givers, takers), len(givers) + len(takers) - len(groups))
            self.check_table(givers, takers, unit_table(givers, takers), fewest_units(givers, takers))

    def test_groups_that_are_known(self):
        self.assertEqual(len(balanced_groups((7, 7, 7, 7, 7), (7, 7, 7, 7, 7))), 5)
        self.assertEqual(fewest_units((7, 7, 7, 7, 7), (7, 7, 7, 7, 7)), 5)
        self.assertEqual(balanced_groups((3, 4, 9), (9, 7)), (((0, 1), (1,)), ((2,), (0,))))
        self.assertEqual(balanced_groups((5, 6), (4, 7)), (((0, 1), (0, 1)),))
        self.assertEqual(fewest_units((5, 6), (4, 7)), 3)
        # Whoever takes the first pair that is equal, 6 and 6, is left with one large group.
        self.assertEqual(len(balanced_groups((6, 5, 1, 8), (6, 6, 8))), 3)
        self.assertEqual(len(balanced_groups((6, 2, 4, 3), (5, 4, 6))), 3)

    def test_one_and_one(self):
        self.assertEqual(fewest_units((8,), (8,)), 1)
        self.assertEqual(unit_table((8,), (8,)), ((8,),))
        self.assertEqual(balanced_groups((8,), (8,)), (((0,), (0,)),))

    def test_largest(self):
        self.assertEqual(fewest_units((10000,) * 5, (10000,) * 5), 5)
        self.assertEqual(fewest_units((10000, 10000, 1), (10000, 10000, 1)), 3)
        self.assertEqual(unit_table((10000,), (1, 9999)), ((1, 9999),))

    def test_which_groups_are_shown(self):
        self.assertIs(shows_groups((5, 5), (5, 5), (((0,), (0,)), ((1,), (1,)))), True)
        self.assertIs(shows_groups((5, 5), (5, 5), (((0,), (1,)), ((1,), (0,)))), True)
        for value in [
            (((1,), (1,)), ((0,), (0,))), (((0, 1), (0, 1)),), (((0,), (0,)),), (((0,), (0,)), ((0,), (0,))),
            (((0,), (0,)), ((1,), (0,))), [((0,), (0,)), ((1,), (1,))], ([(0,), (0,)], ((1,), (1,))),
            (((0,), [0]), ((1,), (1,))), (((False,), (0,)), ((1,), (1,))), (((0,), (0,)), ((True,), (1,))),
            (((0,), (0,)), ((1,), (-1,))), (((0,), (0,)), ((1,), (2,))), (((0,), (0,)), ((), ())),
            (((0,), (0,)), ((1,), (1,)), ((), ())), (((0,), (0,)), ((1,), ())), (((0,), (0,), ()), ((1,), (1,))),
            (((), ()), ((0, 1), (0, 1))), (((0,),), ((1,), (1,))), ((), ((0,), (0,))),
            (((0,), (0,)), None), (((0,), (0,)), ((1,), ("1",))), (((0,), (0,)), ((1,), 1)), None, (), {}, "ab",
        ]:
            self.assertIs(shows_groups((5, 5), (5, 5), value), False, value)
        self.assertIs(shows_groups((3, 4, 9), (9, 7), (((0, 1), (1,)), ((2,), (0,)))), True)
        self.assertIs(shows_groups((3, 4, 9), (9, 7), (((1, 0), (1,)), ((2,), (0,)))), False)
        self.assertIs(shows_groups((3, 4, 9), (9, 7), (((0, 0, 1), (1,)), ((2,), (0,)))), False)
        self.assertIs(shows_groups((3, 4, 9), (9, 7), (((0, 1), (0,)), ((2,), (1,)))), False)

    def test_all_values_near_by(self):
        sets = [some for many in (1, 2) for some in itertools.combinations(range(3), many)]
        groups = list(itertools.product(sets, sets))
        for givers, takers in [((2, 3, 3), (3, 2, 3)), ((1, 2, 3), (3, 1, 2)), ((1, 2, 4), (3, 3, 1))]:
            most = oracles.most_groups(givers, takers)
            for many in (1, 2, 3):
                for value in itertools.product(groups, repeat=many) if many < 3 else itertools.combinations(groups, 3):
                    expected = many == most and oracles.is_grouping(givers, takers, value)
                    self.assertIs(shows_groups(givers, takers, value), expected, (givers, takers, value))


class TestMatches(unittest.TestCase):
    def test_by_trying_all_choices(self):
        chance = random.Random(35)
        tried = 0
        while tried < 40:
            problem = oracles.tiny_problem(chance, 3, 3)
            given, taken = oracles.outside_spots(problem)
            many = len({giver for giver, _ in given}) * len({taker for taker, _ in taken})
            if many > 6 or sum(taken.values()) > 9:
                continue
            tried += 1
            expected = oracles.smallest_matches(problem)
            self.assertEqual(match_set(problem), expected, problem)
            self.assertEqual(fewest_matches(problem), len(expected), problem)

    def test_nine_pairs(self):
        # Three givers with the heating, three takers with the cooling.
        problem = (((180, 60, 2), (70, 50, 1), (20, 80, 3), (150, 220, 1)), (), 10)
        self.assertEqual(oracles.outside(problem), (50, 60))
        # The stream 1 is too cool for the stream 3, and no other part of the heats is balanced.
        self.assertEqual(match_set(problem), ((-1, 3), (0, -1), (0, 2), (0, 3), (1, -1)))
        self.assertEqual(fewest_matches(problem), 5)

    def test_three_and_three(self):
        problem = (((100, 50, 1),) * 3 + ((0, 50, 1),) * 3, (), 0)
        self.assertEqual(match_set(problem), ((0, 3), (1, 4), (2, 5)))

    def test_one_giver_and_nine_takers(self):
        takers = ((0, 12, 1),) * 5
        boxes = ((0, -10),) * 4
        problem = (((100, 0, 1),) + takers, boxes, 0)
        self.assertEqual(oracles.outside(problem), (0, 0))
        self.assertEqual(match_set(problem), tuple((0, taker) for taker in range(1, 10)))
        self.assertEqual(fewest_matches(problem), 9)

    def test_outside_alone(self):
        self.assertEqual(match_set((((180, 60, 2),), (), 10)), ((0, -1),))
        self.assertEqual(match_set((((20, 100, 3),), (), 10)), ((-1, 0),))
        self.assertEqual(match_set(((), ((50, -7),), 10)), ((-1, 0),))
        self.assertEqual(match_set((((180, 60, 2), (20, 21, 1)), ((5, 5),), 10)), ((0, -1), (0, 1), (2, -1)))

    def test_heating_or_cooling_of_zero(self):
        even = (((100, 50, 1), (0, 50, 1)), (), 10)
        self.assertEqual(match_set(even), ((0, 1),))
        heated = (((100, 50, 1), (0, 50, 2)), (), 10)
        self.assertEqual(match_set(heated), ((-1, 1), (0, 1)))
        cooled = (((100, 50, 2), (0, 50, 1)), (), 10)
        self.assertEqual(match_set(cooled), ((0, -1), (0, 1)))
        both = (((100, 50, 1), (80, 130, 1)), (), 10)
        self.assertEqual(match_set(both), ((-1, 1), (0, -1), (0, 1)))

    def test_cooling_and_heating_that_do_not_meet(self):
        problem = ((), ((50, -7), (40, 7)), 0)
        self.assertEqual(match_set(problem), ((-1, 0), (1, -1)))
        self.assertEqual(fewest_matches(problem), 2)

    def test_smallest_of_several(self):
        # Either giver may serve either taker.
        problem = ((), ((90, 5), (80, 5), (20, -5), (10, -5)), 0)
        self.assertEqual(match_set(problem), ((0, 2), (1, 3)))
        crossed = ((), ((90, 5), (80, 5), (85, -5), (10, -5)), 0)
        self.assertEqual(match_set(crossed), ((0, 2), (1, 3)))
        forced = ((), ((80, 5), (90, 5), (85, -5), (10, -5)), 0)
        self.assertEqual(match_set(forced), ((0, 3), (1, 2)))


class TestFaults(Faults, unittest.TestCase):
    def test_loads(self):
        for value in LOADS_FAULTS:
            for function in OF_LOADS:
                self.assert_fault(errors.BadLoads(), function, value, (8,))
                self.assert_fault(errors.BadLoads(), function, value, None)
                self.assert_fault(errors.BadLoads(), function, (8,), value)
            self.assert_fault(errors.BadLoads(), shows_groups, value, (8,), None)
            self.assert_fault(errors.BadLoads(), shows_groups, (8,), value, None)
            self.assert_fault(errors.BadLoads(), shows_groups, (9,), value, ())

    def test_unbalanced(self):
        for givers, takers in [((8,), (7,)), ((5, 3), (4, 5)), ((10000,), (1,)), ((1,) * 5, (1,) * 4)]:
            for function in OF_LOADS:
                self.assert_fault(errors.Unbalanced(), function, givers, takers)
            self.assert_fault(errors.Unbalanced(), shows_groups, givers, takers, None)

    def test_problems(self):
        for value, error in problem_faults():
            self.assert_fault(error, fewest_matches, value)
            self.assert_fault(error, match_set, value)

    def test_too_many_pairs(self):
        boxes = ((90, 1), (80, 1), (20, -1), (10, -1))
        nine = (((100, 50, 1), (0, 49, 1)), boxes, 0)
        self.assertEqual(oracles.outside(nine), (0, 1))
        self.assert_fault(errors.TooMany(9), match_set, nine)
        self.assert_fault(errors.TooMany(9), fewest_matches, nine)
        just_nine = (((100, 50, 1), (0, 50, 1)), boxes, 0)
        self.assertEqual(oracles.outside(just_nine), (0, 0))
        self.assertEqual(match_set(just_nine), ((0, 1), (2, 4), (3, 5)))
        # Two givers and four takers, with heating and cooling three and five.
        self.assert_fault(errors.TooMany(9), match_set, (((100, 50, 1), (90, 200, 1)), boxes[1:], 0))
        ten = (((100, 0, 1),) + ((0, 12, 1),) * 5, ((0, -10), (0, -10), (0, -10), (0, -9)), 0)
        self.assertEqual(oracles.outside(ten), (0, 1))
        self.assert_fault(errors.TooMany(9), fewest_matches, ten)
        self.assert_fault(errors.TooMany(9), match_set, ten)
        ten = (((180, 60, 1), (0, 100, 1), (0, 100, 1), (0, 100, 1), (0, 100, 1)), ((5, -1),), 0)
        self.assertEqual(len({taker for taker, _ in oracles.outside_spots(ten)[1]}), 5)
        self.assert_fault(errors.TooMany(9), fewest_matches, ten)
        counted = (((100, 50, 1), (150, 120, 1), (60, 70, 1)), ((190, -9), (30, -1), (20, -1)), 0)
        self.assertEqual([value > 0 for value in oracles.outside(counted)], [True, True])
        self.assert_fault(errors.TooMany(9), match_set, counted)

    def test_last_arguments(self):
        self.assert_truths(shows_groups, (8,), (8,))
        self.assert_truths(shows_groups, (5, 3), (3, 5))
        self.assertIs(shows_groups((8,), (8,), (((0,), (0,)),)), True)
        self.assertIs(shows_groups((8,), (8,), (((False,), (0,)),)), False)


if __name__ == "__main__":
    unittest.main()
