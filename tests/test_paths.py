"""pinchworks.paths: point 12."""

import itertools
import random
import unittest

from pinchworks import errors
from pinchworks.networks import flaw
from pinchworks.paths import least_relief, path, relieved, shows_path
from tests import oracles
from tests.faults import BOX, JUNK, NETWORKED, Faults, network_faults, problem_faults
from tests.test_networks import mended, random_network
from tests.test_rings import PROBLEM

PLAIN = (((180, 60, 2), (20, 100, 3)), (), 10)
STRAIGHT = ((-1, 1, 20), (0, 1, 100), (0, -1, 20))
# Over the cold streams 1 and 3: heat from outside, then 0 to 1, 0 to 3, 2 to 3, and what 2 carries off.
LONG = ((2, -1, 9), (0, 3, 50), (-1, 1, 5), (2, 3, 40), (0, 1, 30))
LONG_PATH = (2, 4, 1, 3, 0)


def networks(seed, many, most=5):
    """Return networks for `PROBLEM`, many of them with paths."""
    chance = random.Random(seed)
    rows = [()]
    for _ in range(many):
        pairs = [(-1, chance.choice((1, 3))), (chance.choice((0, 2)), -1)]
        pairs += [(chance.choice((0, 0, 2)), chance.choice((1, 3))) for _ in range(chance.randint(1, most - 2))]
        pairs = chance.sample(pairs, chance.randint(len(pairs) - 1, len(pairs)))
        rows.append(tuple((*pair, chance.randint(1, 9)) for pair in pairs))
    return rows


def is_path(network, value):
    """Return whether a tuple of indexes is a path of a network."""
    if len(value) < 3 or len(value) % 2 == 0 or len(set(value)) < len(value):
        return False
    rows = [network[index] for index in value]
    if rows[0][0] != -1 or rows[-1][1] != -1 or any(-1 in row[:2] for row in rows[1:-1]):
        return False
    shared = []
    for at in range(len(rows) - 1):
        side = 1 - at % 2
        if rows[at][side] != rows[at + 1][side]:
            return False
        shared.append((side, rows[at][side]))
    return len(set(shared)) == len(shared)


def all_paths(network):
    found = []
    for many in range(3, len(network) + 1, 2):
        found += [value for value in itertools.permutations(range(len(network)), many) if is_path(network, value)]
    return found


def changed(network, value, load):
    rows = list(network)
    for at, index in enumerate(value):
        hot, cold, heat = rows[index]
        rows[index] = (hot, cold, heat - load if at % 2 else heat + load)
    return tuple(rows)


def keeps_gap(problem, network):
    for row in oracles.temperatures(problem, network):
        if None not in row and (row[0] - row[3] < problem[2] or row[1] - row[2] < problem[2]):
            return False
    return True


def reliefs(problem, network, value):
    """Return all loads after which no difference is too small, load by load."""
    most = min(network[index][2] for index in value[1::2])
    return [load for load in range(most) if keeps_gap(problem, changed(network, value, load))]


def relief_cases(seed, many):
    """Return triples (problem, network, path), of sound and unsound networks."""
    chance = random.Random(seed)
    rows = []
    while len(rows) < many:
        problem = oracles.random_problem(chance, 4, 0, span=60, rate=4, gap=20)
        for network in (random_network(chance, problem, 6, 60), mended(problem, random_network(chance, problem, 3, 80))):
            if len(network) <= 6 and all(0 < row[2] <= 100000 for row in network):
                paths = all_paths(network)
                if paths:
                    rows.append((problem, network, chance.choice(paths)))
    return rows


class TestPaths(unittest.TestCase):
    def test_by_trying_all_tuples(self):
        with_paths = 0
        for network in networks(121, 150):
            paths = all_paths(network)
            found = path(PROBLEM, network)
            if paths:
                with_paths += 1
                self.assertIn(found, paths, network)
                self.assertIs(shows_path(PROBLEM, network, found), True)
            else:
                self.assertIsNone(found, network)
            self.assertIs(shows_path(PROBLEM, network, None), not paths, network)
            for many in range(len(network) + 1):
                for value in itertools.product(range(len(network)), repeat=many):
                    if many < 4 or len(set(value)) == many:
                        self.assertIs(shows_path(PROBLEM, network, value), value in paths, (network, value))
        self.assertTrue(40 < with_paths < 120, with_paths)

    def test_large_networks(self):
        for network in networks(122, 200, 12):
            found = path(PROBLEM, network)
            if found is None:
                hots = {hot for hot, cold, _ in network if cold == -1}
                reached = {cold for hot, cold, _ in network if hot == -1}
                for _ in network:
                    joined = {hot for hot, cold, _ in network if cold in reached and hot != -1}
                    self.assertFalse(joined & hots, network)
                    reached |= {cold for hot, cold, _ in network if hot in joined and cold != -1}
            else:
                self.assertEqual(type(found), tuple)
                self.assertTrue(is_path(network, found), (network, found))

    def test_longest(self):
        self.assertEqual(path(PROBLEM, LONG), LONG_PATH)
        self.assertIs(shows_path(PROBLEM, LONG, LONG_PATH), True)
        self.assertIs(shows_path(PROBLEM, LONG, LONG_PATH[::-1]), False)
        self.assertIs(shows_path(PROBLEM, LONG, LONG_PATH[:3]), False)
        network = ((-1, 1, 1), (0, 1, 2), (0, 3, 3), (2, 3, 4), (2, 5, 5), (4, 5, 6), (4, -1, 7))
        self.assertEqual(path(PROBLEM, network), (0, 1, 2, 3, 4, 5, 6))
        self.assertIsNone(path(PROBLEM, network[:6]))
        self.assertIsNone(path(PROBLEM, network[1:]))

    def test_no_end_shared_twice(self):
        network = ((-1, 1, 5), (0, 1, 5), (0, 1, 5), (0, 1, 5), (0, -1, 5))
        self.assertIs(shows_path(PROBLEM, network, (0, 1, 4)), True)
        self.assertIs(shows_path(PROBLEM, network, (0, 3, 4)), True)
        self.assertIs(shows_path(PROBLEM, network, (0, 1, 2, 3, 4)), False)

    def test_outside_stands_at_both_ends_only(self):
        network = ((-1, 1, 5), (-1, 1, 5), (0, 1, 5), (0, -1, 5), (0, -1, 5), (0, 3, 5), (-1, 3, 5), (2, 3, 5), (2, -1, 5),
                   (2, -1, 5))
        for value in ((0, 2, 3), (1, 2, 4), (6, 5, 3), (6, 7, 8), (0, 2, 5, 7, 8)):
            self.assertIs(shows_path(PROBLEM, network, value), True, value)
        for value in ((0, 1, 2, 3, 4), (0, 1, 6, 5, 3), (0, 2, 3, 8, 9), (2, 1, 3), (0, 2, 5), (2, 0, 3), (0, 1, 3), (0, 2, 5, 6, 8), (0, 2), (0,), ()):
            self.assertIs(shows_path(PROBLEM, network, value), False, value)

    def test_empty(self):
        self.assertIsNone(path(PROBLEM, ()))
        self.assertIs(shows_path(PROBLEM, (), None), True)
        self.assertIs(shows_path(PROBLEM, (), ()), False)


class TestRelieved(unittest.TestCase):
    def test_loads(self):
        self.assertEqual(relieved(PLAIN, STRAIGHT, (0, 1, 2), 0), STRAIGHT)
        self.assertEqual(relieved(PLAIN, STRAIGHT, (0, 1, 2), 99), ((-1, 1, 119), (0, 1, 1), (0, -1, 119)))
        expected = ((2, -1, 38), (0, 3, 79), (-1, 1, 34), (2, 3, 11), (0, 1, 1))
        self.assertEqual(relieved(PROBLEM, LONG, LONG_PATH, 29), expected)

    def test_by_definition(self):
        for network in networks(123, 100):
            for value in all_paths(network)[:3]:
                for load in range(min(network[index][2] for index in value[1::2])):
                    found = relieved(PROBLEM, network, value, load)
                    self.assertEqual(found, changed(network, value, load), (network, value, load))

    def test_load_of_one(self):
        network = ((-1, 1, 20), (0, 1, 1), (0, -1, 20))
        self.assertEqual(relieved(PLAIN, network, (0, 1, 2), 0), network)

    def test_loads_beyond_the_limit_may_arise(self):
        network = ((-1, 1, 100000), (0, 1, 100000), (0, -1, 100000))
        expected = ((-1, 1, 199999), (0, 1, 1), (0, -1, 199999))
        self.assertEqual(relieved(PLAIN, network, (0, 1, 2), 99999), expected)


class TestLeastRelief(unittest.TestCase):
    def test_load_by_load(self):
        kinds = {}
        for problem, network, value in relief_cases(124, 400):
            loads = reliefs(problem, network, value)
            found = least_relief(problem, network, value)
            self.assertEqual(found, loads[0] if loads else None, (problem, network, value))
            kind = found if found in (None, 0) else 1
            kinds[kind] = kinds.get(kind, 0) + 1
        self.assertEqual(len(kinds), 3, kinds)
        self.assertGreater(min(kinds.values()), 20, kinds)

    def test_sound_at_last(self):
        # Without relief the hot stream leaves at 60 what it heats from 55 on.
        problem = (((100, 50, 1), (55, 95, 1)), (), 10)
        network = ((-1, 1, 1), (0, 1, 39), (0, -1, 11))
        self.assertEqual(flaw(problem, network), ("gap", 1))
        self.assertEqual(least_relief(problem, network, (0, 1, 2)), 4)
        self.assertIsNone(flaw(problem, relieved(problem, network, (0, 1, 2), 4)))
        self.assertEqual(flaw(problem, relieved(problem, network, (0, 1, 2), 3)), ("gap", 1))

    def test_fractions_are_rounded_up(self):
        problem = (((100, 50, 7), (55, 95, 3)), (), 10)
        for load in range(1, 120):
            network = ((-1, 1, 120 - load), (0, 1, load), (0, -1, 350 - load))
            loads = reliefs(problem, network, (0, 1, 2))
            self.assertEqual(least_relief(problem, network, (0, 1, 2)), loads[0] if loads else None, load)

    def test_no_load_suffices(self):
        # The last unit cannot be taken away.
        problem = (((100, 50, 1), (95, 150, 1)), (), 10)
        network = ((-1, 1, 45), (0, 1, 10), (0, -1, 40))
        self.assertIsNone(least_relief(problem, network, (0, 1, 2)))
        # An exchanger beside the path is not helped.
        problem = (((100, 50, 1), (55, 95, 1), (100, 90, 1), (95, 99, 1)), (), 10)
        network = ((-1, 1, 1), (0, 1, 39), (0, -1, 11), (2, 3, 4), (2, -1, 6))
        self.assertIsNone(least_relief(problem, network, (0, 1, 2)))
        self.assertEqual(least_relief((problem[0], (), 0), network, (0, 1, 2)), 0)
        self.assertEqual(least_relief(problem, network[:3], (0, 1, 2)), 4)

    def test_goals_do_not_matter(self):
        self.assertEqual(least_relief(PLAIN, ((-1, 1, 1), (0, 1, 2), (0, -1, 1)), (0, 1, 2)), 0)

    def test_long_paths(self):
        chance = random.Random(125)
        for _ in range(200):
            ends = [sorted(chance.sample(range(60), 2)) for _ in range(4)]
            streams = tuple(
                (low, high, chance.randint(1, 4)) if at % 2 else (high + 20, low + 20, chance.randint(1, 4))
                for at, (low, high) in enumerate(ends)
            )
            rows = chance.sample(LONG, len(LONG))
            network = tuple((hot, cold, chance.randint(1, 30)) for hot, cold, _ in rows)
            value = tuple(rows.index(LONG[index]) for index in LONG_PATH)
            problem = (streams, (), chance.randint(0, 12))
            loads = reliefs(problem, network, value)
            self.assertEqual(least_relief(problem, network, value), loads[0] if loads else None, (problem, network))

    def test_some_differences_fall(self):
        # One difference does from the load 11 on, another one up to the load 10, or just up to the load 26.
        problem = (((58, 30, 2), (15, 35, 1), (56, 24, 4), (30, 41, 4)), (), 2)
        network = ((0, 3, 39), (2, 3, 16), (2, -1, 9), (-1, 1, 6), (0, 1, 27))
        self.assertEqual(reliefs(problem, network, (3, 4, 0, 1, 2)), [])
        self.assertIsNone(least_relief(problem, network, (3, 4, 0, 1, 2)))
        problem = (((52, 36, 4), (1, 34, 1), (62, 43, 1), (25, 32, 3)), (), 7)
        network = ((-1, 1, 1), (2, 3, 39), (0, 1, 38), (0, 3, 25), (2, -1, 29))
        self.assertEqual(reliefs(problem, network, (0, 2, 3, 1, 4)), [26])
        self.assertEqual(least_relief(problem, network, (0, 2, 3, 1, 4)), 26)

    def test_differences_beside_the_path(self):
        # The exchanger of 2 and 3 is not changed, and its difference is 5 on both sides.
        streams = ((100, 50, 1), (20, 60, 1), (100, 90, 1), (85, 95, 1))
        network = ((-1, 1, 5), (0, 1, 35), (0, -1, 15), (2, 3, 10))
        for gap, expected in ((4, 0), (5, 0), (6, None)):
            self.assertEqual(least_relief((streams, (), gap), network, (0, 1, 2)), expected)

    def test_largest(self):
        problem = (((1000, 0, 100), (0, 1000, 100)), (), 100)
        network = ((-1, 1, 1), (0, 1, 99999), (0, -1, 1))
        found = least_relief(problem, network, (0, 1, 2))
        self.assertEqual(found, 9999)
        self.assertIsNone(flaw(problem, relieved(problem, network, (0, 1, 2), found)))
        self.assertEqual(flaw(problem, relieved(problem, network, (0, 1, 2), found - 1)), ("gap", 1))


class TestFaults(Faults, unittest.TestCase):
    def test_problems(self):
        for value, error in problem_faults():
            self.assert_fault(error, path, value, None)
            self.assert_fault(error, shows_path, value, (), None)
            self.assert_fault(error, relieved, value, None, None, None)
            self.assert_fault(error, least_relief, value, (), (0, 1, 2))

    def test_boxes(self):
        problem = (PLAIN[0], (BOX,), 10)
        self.assert_fault(errors.HasBoxes(), path, problem, None)
        self.assert_fault(errors.HasBoxes(), shows_path, problem, STRAIGHT, None)
        self.assert_fault(errors.HasBoxes(), relieved, problem, None, None, None)
        self.assert_fault(errors.HasBoxes(), least_relief, problem, STRAIGHT, None)
        self.assert_fault(errors.BadGap(), path, (PLAIN[0], (BOX,), 101), None)

    def test_networks(self):
        for value, error in network_faults():
            self.assert_fault(error, path, NETWORKED, value)
            self.assert_fault(error, shows_path, NETWORKED, value, None)
            self.assert_fault(error, relieved, NETWORKED, value, None, None)
            self.assert_fault(error, least_relief, NETWORKED, value, (0, 1, 2))

    def test_paths(self):
        near = [(0, 1), (0, 1, 2, 3), (2, 1, 0), (0, True, 2), (False, 1, 2), [0, 1, 2], {0: 1}, (0, 1, -1), (0, 1, 3),
                (0, 1, "2"), (0, 1, None), (0, 1, (2,)), (0, 1, 1), (1, 1, 1), (0, 1, 2, 1, 2), (-3, -2, -1)]
        for value in JUNK + near:
            self.assert_fault(errors.BadPath(), relieved, PLAIN, STRAIGHT, value, 0)
            self.assert_fault(errors.BadPath(), relieved, PLAIN, STRAIGHT, value, -1)
            self.assert_fault(errors.BadPath(), least_relief, PLAIN, STRAIGHT, value)
            self.assertIs(shows_path(PLAIN, STRAIGHT, value), False, value)
        for value in (None, (), (0, 1, 2), (0,)):
            self.assert_fault(errors.BadPath(), relieved, PLAIN, STRAIGHT[:2], value, 0)
            self.assert_fault(errors.BadPath(), least_relief, PLAIN, (), value)

    def test_loads(self):
        for value in JUNK:
            if value not in (0, 1, 2, 5) or isinstance(value, bool):
                self.assert_fault(errors.BadLoad(), relieved, PLAIN, STRAIGHT, (0, 1, 2), value)
        for value in (-1, 100, 101, 10 ** 30):
            self.assert_fault(errors.BadLoad(), relieved, PLAIN, STRAIGHT, (0, 1, 2), value)
        self.assert_fault(errors.BadLoad(), relieved, PROBLEM, LONG, LONG_PATH, 30)
        self.assert_fault(errors.BadLoad(), relieved, PLAIN, ((-1, 1, 20), (0, 1, 1), (0, -1, 20)), (0, 1, 2), 1)

    def test_last_arguments(self):
        self.assert_truths(shows_path, PLAIN, STRAIGHT)
        self.assert_truths(shows_path, PLAIN, STRAIGHT[:2], but=(None,))
        self.assert_truths(shows_path, PLAIN, (), but=(None,))
        self.assert_truths(shows_path, PLAIN, (STRAIGHT[0], STRAIGHT[2], STRAIGHT[1]))
        self.assertIs(shows_path(PLAIN, (STRAIGHT[0], STRAIGHT[2], STRAIGHT[1]), (0, 2, 1)), True)


if __name__ == "__main__":
    unittest.main()
