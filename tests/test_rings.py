"""pinchworks.rings: point 9."""

import itertools
import random
import unittest

from pinchworks import errors
from pinchworks.rings import moved, ring, ring_count, ringless, shows_ring
from tests import oracles
from tests.faults import BOX, JUNK, NETWORKED, Faults, network_faults, problem_faults

PROBLEM = (((180, 60, 2), (20, 100, 3), (150, 50, 1), (30, 60, 4), (90, 80, 9), (10, 15, 2)), (), 10)
OF_TWO = (ring_count, ring, ringless)
SQUARE = ((0, 1, 10), (2, 1, 20), (2, 3, 30), (0, 3, 40))


def networks(seed, many, most=5):
    """Return networks for `PROBLEM`, many of them with rings."""
    chance = random.Random(seed)
    pairs = [(hot, cold) for hot in (-1, 0, 2, 4) for cold in (-1, 1, 3, 5) if (hot, cold) != (-1, -1)]
    rows = [()]
    for _ in range(many):
        some = chance.sample(pairs, chance.randint(1, len(pairs)))
        length = chance.randint(1, most)
        rows.append(tuple((*chance.choice(some), chance.randint(1, 9)) for _ in range(length)))
    return rows


class TestRings(unittest.TestCase):
    def test_counts(self):
        for network in networks(51, 300, 12):
            expected = len(network) - len(oracles.ends(network)) + oracles.parts(network)
            self.assertEqual(ring_count(PROBLEM, network), expected, network)

    def test_by_trying_all_tuples(self):
        with_rings = 0
        for network in networks(52, 120):
            rings = oracles.all_rings(network)
            found = ring(PROBLEM, network)
            self.assertEqual(bool(rings), ring_count(PROBLEM, network) > 0, network)
            if rings:
                with_rings += 1
                self.assertIn(found, rings, network)
                self.assertIs(shows_ring(PROBLEM, network, found), True)
            else:
                self.assertIsNone(found, network)
            self.assertIs(shows_ring(PROBLEM, network, None), not rings, network)
            for many in range(len(network) + 1):
                for value in itertools.product(range(len(network)), repeat=many):
                    if many < 3 or len(set(value)) == many:
                        self.assertIs(shows_ring(PROBLEM, network, value), value in rings, (network, value))
        self.assertTrue(20 < with_rings < 110)

    def test_long_rings(self):
        network = ((0, 1, 1), (2, 1, 2), (2, 3, 3), (4, 3, 4), (4, 5, 5), (0, 5, 6))
        self.assertEqual(ring_count(PROBLEM, network), 1)
        self.assertIs(shows_ring(PROBLEM, network, (0, 1, 2, 3, 4, 5)), True)
        self.assertIs(shows_ring(PROBLEM, network, (2, 3, 4, 5, 0, 1)), True)
        self.assertIs(shows_ring(PROBLEM, network, (0, 5, 4, 3, 2, 1)), False)
        self.assertIs(shows_ring(PROBLEM, network, (1, 0, 5, 4, 3, 2)), True)
        self.assertIs(shows_ring(PROBLEM, network, (1, 2, 3, 4, 5, 0)), False)
        self.assertIs(shows_ring(PROBLEM, network, ring(PROBLEM, network)), True)
        for network in networks(53, 200, 12):
            found = ring(PROBLEM, network)
            if found is None:
                self.assertEqual(ring_count(PROBLEM, network), 0)
            else:
                self.assertTrue(oracles.is_ring(network, found), (network, found))
                self.assertEqual(type(found), tuple)

    def test_rings_over_the_outside(self):
        network = ((-1, 1, 5), (-1, 3, 5), (0, 3, 5), (0, 1, 5))
        self.assertEqual(ring_count(PROBLEM, network), 1)
        self.assertIs(shows_ring(PROBLEM, network, (0, 3, 2, 1)), True)
        network = ((0, -1, 5), (2, -1, 5), (2, 1, 5), (0, 1, 5))
        self.assertIs(shows_ring(PROBLEM, network, (0, 1, 2, 3)), True)
        # The outside on the hot side and on the cold side are two ends, so this is no ring.
        network = ((-1, 1, 5), (0, 1, 5), (0, -1, 5))
        self.assertEqual((ring_count(PROBLEM, network), ring(PROBLEM, network)), (0, None))

    def test_no_end_shared_twice(self):
        network = ((0, 1, 5), (2, 1, 5), (2, 1, 5), (0, 1, 5))
        self.assertIs(shows_ring(PROBLEM, network, (0, 1, 2, 3)), False)
        self.assertIs(shows_ring(PROBLEM, network, (0, 3)), True)
        self.assertIs(shows_ring(PROBLEM, network, (3, 0)), True)
        self.assertIs(shows_ring(PROBLEM, network, (0, 1)), False)

    def test_empty(self):
        self.assertEqual((ring_count(PROBLEM, ()), ring(PROBLEM, ()), ringless(PROBLEM, ())), (0, None, ()))
        self.assertIs(shows_ring(PROBLEM, (), None), True)
        self.assertIs(shows_ring(PROBLEM, (), ()), False)


class TestMoved(unittest.TestCase):
    def test_square(self):
        self.assertEqual(moved(PROBLEM, SQUARE, (0, 1, 2, 3), 5), ((0, 1, 15), (2, 1, 15), (2, 3, 35), (0, 3, 35)))
        self.assertEqual(moved(PROBLEM, SQUARE, (0, 1, 2, 3), 20), ((0, 1, 30), (2, 3, 50), (0, 3, 20)))
        self.assertEqual(moved(PROBLEM, SQUARE, (1, 0, 3, 2), 10), ((2, 1, 30), (2, 3, 20), (0, 3, 50)))

    def test_several_left_out(self):
        network = ((0, 1, 10), (2, 1, 20), (2, 3, 30), (0, 3, 20))
        self.assertEqual(moved(PROBLEM, network, (0, 1, 2, 3), 20), ((0, 1, 30), (2, 3, 50)))

    def test_sums_of_ends_stay(self):
        for network in networks(54, 150, 12):
            found = ring(PROBLEM, network)
            if found is not None:
                least = min(network[index][2] for index in found[1::2])
                for load in range(1, least + 1):
                    rest = moved(PROBLEM, network, found, load)
                    self.assertEqual(oracles.sums_of_ends(rest), oracles.sums_of_ends(network), network)
                    self.assertEqual(len(rest) == len(network), load < least)

    def test_loads_beyond_the_limit_may_arise(self):
        network = ((0, 1, 100000), (0, 1, 100000))
        self.assertEqual(moved(PROBLEM, network, (0, 1), 100000), ((0, 1, 200000),))
        self.assertEqual(ringless(PROBLEM, ((0, 1, 100000),) * 12), ((0, 1, 1200000),))


class TestRingless(unittest.TestCase):
    def test_by_definition(self):
        for network in networks(55, 300, 12):
            rest = ringless(PROBLEM, network)
            self.assertEqual(oracles.sums_of_ends(rest), oracles.sums_of_ends(network), (network, rest))
            self.assertEqual(len(rest), len(oracles.ends(rest)) - oracles.parts(rest), (network, rest))
            self.assertTrue(all(type(load) is int and load > 0 for _, _, load in rest))
            pairs = iter([row[:2] for row in network])
            self.assertTrue(all(row[:2] in pairs for row in rest), (network, rest))

    def test_without_a_ring_already(self):
        network = ((-1, 1, 5), (0, 1, 5), (0, -1, 5))
        self.assertEqual(oracles.sums_of_ends(ringless(PROBLEM, network)), oracles.sums_of_ends(network))


class TestFaults(Faults, unittest.TestCase):
    def test_problems(self):
        for value, error in problem_faults():
            for function in OF_TWO:
                self.assert_fault(error, function, value, ())
                self.assert_fault(error, function, value, None)
            self.assert_fault(error, shows_ring, value, None, None)
            self.assert_fault(error, moved, value, None, None, None)

    def test_boxes(self):
        problem = (PROBLEM[0], (BOX,), 10)
        for function in OF_TWO:
            self.assert_fault(errors.HasBoxes(), function, problem, None)
            self.assert_fault(errors.BadGap(), function, (PROBLEM[0], (BOX,), -1), ())
        self.assert_fault(errors.HasBoxes(), shows_ring, problem, (), None)
        self.assert_fault(errors.HasBoxes(), moved, problem, (), None, 0)

    def test_networks(self):
        for value, error in network_faults():
            for function in OF_TWO:
                self.assert_fault(error, function, NETWORKED, value)
            self.assert_fault(error, shows_ring, NETWORKED, value, None)
            self.assert_fault(error, moved, NETWORKED, value, None, None)

    def test_rings(self):
        for value in JUNK + [(0, 1, 2), (0, 1, 2, 3, 0), (1, 2, 3, 0), (0, 1, 2, 4), (0, 1, 2, -1), (0, True, 2, 3),
                             (False, 1, 2, 3), [0, 1, 2, 3], (0, 1, 2, 3, 0, 1), (0, 2, 1, 3), (0, 1, 2, "3")]:
            self.assert_fault(errors.BadRing(), moved, PROBLEM, SQUARE, value, 5)
            self.assert_fault(errors.BadRing(), moved, PROBLEM, SQUARE, value, None)
            self.assertIs(shows_ring(PROBLEM, SQUARE, value), False)
        for value in (None, (), (0,), (0, 1)):
            self.assert_fault(errors.BadRing(), moved, PROBLEM, SQUARE[:3], value, 5)

    def test_loads(self):
        for value in JUNK:
            if value not in (1, 2, 5) or value is True:
                self.assert_fault(errors.BadLoad(), moved, PROBLEM, SQUARE, (0, 1, 2, 3), value)
        for value in (0, -1, 21, 40, 100000):
            self.assert_fault(errors.BadLoad(), moved, PROBLEM, SQUARE, (0, 1, 2, 3), value)
        self.assert_fault(errors.BadLoad(), moved, PROBLEM, SQUARE, (1, 0, 3, 2), 11)

    def test_last_arguments(self):
        self.assert_truths(shows_ring, PROBLEM, SQUARE)
        self.assert_truths(shows_ring, PROBLEM, SQUARE[:3], but=(None,))
        self.assert_truths(shows_ring, PROBLEM, (), but=(None,))
        self.assert_truths(shows_ring, PROBLEM, ((0, 1, 5), (0, 1, 6)), but=((0, 1),))


if __name__ == "__main__":
    unittest.main()
