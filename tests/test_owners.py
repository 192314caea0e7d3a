"""pinchworks.owners: point 23."""

import itertools
import random
import unittest

from pinchworks import errors
from pinchworks.cascades import least_outside
from pinchworks.owners import heat_shares, shows_shares
from tests import oracles
from tests.faults import BARRABLE, JUNK, Faults, owner_faults, problem_faults

PROBLEM = (((180, 60, 2), (20, 100, 3)), ((100, -40),), 10)
LARGEST = (((1000, 0, 100),) * 3 + ((0, 1000, 100),) * 3, ((1000, 10000), (0, -10000), (1000, -10000), (0, 10000)), 100)


def random_owners(chance, problem):
    many = chance.randint(1, 4)
    return tuple(chance.randrange(many) for _ in problem[0] + problem[1])


def cases(seed, many):
    """Return pairs (problem, owners)."""
    chance = random.Random(seed)
    rows = []
    for _ in range(many):
        for problem in (
            oracles.random_problem(chance, 6, 4),
            oracles.random_problem(chance, 6, 0, span=60),
            oracles.random_problem(chance, 0, 4, span=9, heat=9),
            oracles.random_problem(chance, 3, 3, span=6, rate=2, heat=6, gap=2),
        ):
            rows.append((problem, random_owners(chance, problem)))
    return rows


def heatings_of_sets(problem, owners):
    """Return a dict from all sets of owners, as tuples, to the least heatings of what they have."""
    streams, boxes, gap = problem
    found = {}
    for many in range(max(owners) + 2):
        for some in itertools.combinations(range(max(owners) + 1), many):
            theirs = tuple(stream for stream, owner in zip(streams, owners) if owner in some)
            others = tuple(box for box, owner in zip(boxes, owners[len(streams):]) if owner in some)
            found[some] = oracles.outside((theirs, others, gap))[0] if theirs or others else 0
    return found


def are_shares(problem, owners, value, heatings):
    many = max(owners) + 1
    if type(value) is not tuple or len(value) != many or any(type(share) is not int for share in value):
        return False
    if sum(value) != heatings[tuple(range(many))]:
        return False
    return all(sum(value[owner] for owner in some) <= heating for some, heating in heatings.items())


class TestShares(unittest.TestCase):
    def test_by_all_sets_of_owners(self):
        negative = 0
        for problem, owners in cases(231, 40):
            shares = heat_shares(problem, owners)
            heatings = heatings_of_sets(problem, owners)
            self.assertTrue(are_shares(problem, owners, shares, heatings), (problem, owners, shares))
            self.assertIs(shows_shares(problem, owners, shares), True, (problem, owners, shares))
            negative += min(shares) < 0
        self.assertGreater(negative, 10)

    def test_near_values(self):
        chance = random.Random(232)
        shown = [0, 0]
        for problem, owners in cases(233, 25):
            shares = heat_shares(problem, owners)
            heatings = heatings_of_sets(problem, owners)
            for _ in range(12):
                near = list(shares)
                for _ in range(chance.randint(1, 3)):
                    one, other = chance.randrange(len(near)), chance.randrange(len(near))
                    step = chance.choice((1, 1, 2, 5, 50))
                    near[one] += step
                    near[other] -= step
                expected = are_shares(problem, owners, tuple(near), heatings)
                self.assertIs(shows_shares(problem, owners, tuple(near)), expected, (problem, owners, near))
                shown[expected] += 1
            for near in (list(shares), shares[1:], shares + (0,), (*shares[:-1], shares[-1] + 1), (*shares[:-1], shares[-1] - 1)):
                self.assertIs(shows_shares(problem, owners, near), False, (problem, owners, near))
        self.assertGreater(min(shown), 50, shown)

    def test_all_values_of_a_problem(self):
        # Alone they need 240, 0 and 40, the first two together 0, the cold stream and the box 280, the others 0.
        problem, owners = PROBLEM, (1, 0, 2)
        heatings = heatings_of_sets(problem, owners)
        self.assertEqual(heatings, {(): 0, (0,): 240, (1,): 0, (2,): 40, (0, 1): 0, (0, 2): 280, (1, 2): 0, (0, 1, 2): 40})
        shown = []
        for first in range(-3, 300):
            for last in range(-3, 60):
                value = (first, 40 - first - last, last)
                expected = are_shares(problem, owners, value, heatings)
                self.assertIs(shows_shares(problem, owners, value), expected, value)
                shown += [value] * expected
        self.assertIn(heat_shares(problem, owners), shown)
        self.assertGreater(len(shown), 20)

    def test_one_owner(self):
        chance = random.Random(234)
        for _ in range(30):
            problem = oracles.random_problem(chance, 6, 4)
            owners = (0,) * len(problem[0] + problem[1])
            heating, _ = least_outside(problem)
            self.assertEqual(heat_shares(problem, owners), (heating,))
            self.assertIs(shows_shares(problem, owners, (heating,)), True)
            self.assertIs(shows_shares(problem, owners, (heating + 1,)), False)
            self.assertIs(shows_shares(problem, owners, (heating - 1,)), False)

    def test_owners_of_nothing(self):
        # What has nothing shares nothing: not more, as it needs nothing, and not less, as it helps nobody.
        for owners in ((1, 1, 1), (3, 3, 3), (0, 2, 2), (0, 3, 1)):
            shares = heat_shares(PROBLEM, owners)
            self.assertEqual(len(shares), max(owners) + 1)
            for owner in set(range(max(owners))) - set(owners):
                self.assertEqual(shares[owner], 0)
        self.assertEqual(heat_shares(PROBLEM, (1, 1, 1)), (0, 40))
        self.assertEqual(heat_shares(PROBLEM, (3, 3, 3)), (0, 0, 0, 40))
        self.assertIs(shows_shares(PROBLEM, (1, 1, 1), (0, 40)), True)
        self.assertIs(shows_shares(PROBLEM, (1, 1, 1), (1, 39)), False)
        self.assertIs(shows_shares(PROBLEM, (1, 1, 1), (-1, 41)), False)
        self.assertIs(shows_shares(PROBLEM, (1, 1, 1), (40,)), False)
        self.assertIs(shows_shares(PROBLEM, (1, 1, 1), (0, 40, 0)), False)

    def test_no_heating(self):
        problem = (((180, 60, 2), (20, 100, 3)), (), 10)
        self.assertEqual(sum(heat_shares(problem, (0, 1))), 0)
        for share in range(-3, 245):
            self.assertIs(shows_shares(problem, (0, 1), (-share, share)), 0 <= share <= 240)

    def test_largest(self):
        for owners in ((0, 1, 2, 3) * 2 + (0, 1), (3,) * 10, (0,) * 5 + (3,) * 5):
            shares = heat_shares(LARGEST, owners)
            self.assertIs(shows_shares(LARGEST, owners, shares), True)
            self.assertEqual(sum(shares), least_outside(LARGEST)[0])


class TestFaults(Faults, unittest.TestCase):
    def test_problems(self):
        for value, error in problem_faults():
            self.assert_fault(error, heat_shares, value, (0, 0, 0))
            self.assert_fault(error, heat_shares, value, None)
            self.assert_fault(error, shows_shares, value, (0, 0, 0), (0,))
            self.assert_fault(error, shows_shares, value, None, None)

    def test_owners(self):
        for value in owner_faults():
            self.assert_fault(errors.BadOwners(), heat_shares, BARRABLE, value)
            self.assert_fault(errors.BadOwners(), shows_shares, BARRABLE, value, (0, 0, 0, 0))
            self.assert_fault(errors.BadOwners(), shows_shares, BARRABLE, value, None)

    def test_limits(self):
        for owners in ((0, 0, 0, 0), (3, 3, 3, 3), (0, 1, 2, 3), (3, 0, 0, 0)):
            self.assertEqual(len(heat_shares(BARRABLE, owners)), max(owners) + 1)
        for owners in ((4, 0, 0, 0), (0, 0, 0, 4), (-1, 0, 0, 0), (0, 0, 0), (0, 0, 0, 0, 0)):
            self.assert_fault(errors.BadOwners(), heat_shares, BARRABLE, owners)

    def test_last_arguments(self):
        self.assert_truths(shows_shares, PROBLEM, (0, 0, 0))
        self.assert_truths(shows_shares, ((), ((5, -1),), 0), (0,), but=((1,),))
        self.assert_truths(shows_shares, ((), ((5, 1),), 0), (0,), but=((0,),))
        self.assert_truths(shows_shares, ((), ((5, -1), (5, -2)), 0), (0, 1), but=((1, 2),))
        for value in JUNK:
            self.assertIs(shows_shares(((), ((5, -1), (5, 1)), 0), (0, 1), (0, value)), repr(value) == "0")


if __name__ == "__main__":
    unittest.main()
