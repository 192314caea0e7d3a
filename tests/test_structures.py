"""pinchworks.structures: point 21."""

import random
import unittest
from fractions import Fraction
from unittest import mock

from pinchworks import errors, loading
from pinchworks.cascades import least_outside
from pinchworks.loading import priced_loading
from pinchworks.networks import flaw, outside_of
from pinchworks.structures import best_loads, load_paper, shows_loads, shows_paper
from tests import oracles
from tests.faults import BOX, JUNK, NETWORKED, Faults, problem_faults, structure_faults
from tests.test_water import as_fractions, is_ratio

STREAMS = ((180, 60, 2), (20, 100, 3))
PROBLEM = (STREAMS, (), 10)
SHOWING = (shows_loads, shows_paper)


def random_structure(chance, streams, most):
    """Return a structure, often one in which each stream has a pair with the outside."""
    hots = [number for number, (start, goal, _) in enumerate(streams) if start > goal]
    colds = [number for number in range(len(streams)) if number not in hots]
    pairs = []
    if chance.random() < 0.8:
        pairs = [(number, -1) if number in hots else (-1, number) for number in range(len(streams))]
    while len(pairs) < most and chance.random() < 0.85:
        pair = (chance.choice(hots + hots + [-1]), chance.choice(colds + colds + [-1]))
        if pair != (-1, -1):
            pairs.append(pair)
    if chance.random() < 0.5:
        chance.shuffle(pairs)
    else:
        # Hot streams are cooled by the outside last, cold ones heated by it first in this order.
        pairs = sorted(pairs[::-1], key=lambda pair: (pair[0] != -1) + (pair[1] == -1))
    return tuple(pairs[:most])


def cases(seed, many):
    """Return pairs (problem, structure)."""
    chance = random.Random(seed)
    rows = []
    for _ in range(many):
        for limits in ({}, {"span": 40, "rate": 3, "gap": 5}, {"span": 1000, "rate": 100, "gap": 100}):
            problem = oracles.random_problem(chance, 6, 0, **limits)
            rows.append((problem, random_structure(chance, problem[0], 10)))
            problem = oracles.random_problem(chance, 3, 0, **limits)
            rows.append((problem, random_structure(chance, problem[0], 5)))
    return rows


def heat(stream):
    start, goal, rate = stream
    return rate * abs(start - goal)


def loads_heating(problem, structure, loads):
    """Return the sum from outside of loads as fractions, or None if they are none, by the temperatures of point 8."""
    if min(loads, default=0) < 0:
        return None
    network = [(hot, cold, load) for (hot, cold), load in zip(structure, loads)]
    for number, stream in enumerate(problem[0]):
        if sum(load for hot, cold, load in network if number in (hot, cold)) != heat(stream):
            return None
    for row in oracles.temperatures(problem, network):
        if None not in row and (row[0] - row[3] < problem[2] or row[1] - row[2] < problem[2]):
            return None
    return sum(load for hot, _, load in network if hot == -1)


def shown_heating(problem, structure, value):
    """Return the sum that a value names if it is a pair of loads and their sum, otherwise None."""
    if type(value) is not tuple or len(value) != 2 or type(value[1]) is not tuple or len(value[1]) != len(structure):
        return None
    loads = as_fractions(value[1])
    if not is_ratio(value[0]) or loads is None or loads_heating(problem, structure, loads) != Fraction(*value[0]):
        return None
    return Fraction(*value[0])


def paper_sum(problem, structure, value):
    """Return what a triple shows, or None if it is no such triple but for its sum."""
    streams, _, gap = problem
    found, u, w = value
    u, w = as_fractions(u), [as_fractions(pair) for pair in w]
    if u is None or None in w or len(u) != len(streams) or len(w) != len(structure):
        return None
    if any(len(pair) != 2 or min(pair) < 0 for pair in w):
        return None
    rights = 0
    gains = [sum(u[end] for end in pair if end != -1) for pair in structure]
    for index, (hot, cold) in enumerate(structure):
        if -1 in (hot, cold):
            if w[index] != [0, 0]:
                return None
            continue
        hot_rate, cold_rate = streams[hot][2], streams[cold][2]
        for worth, own in zip(w[index], (hot_rate, cold_rate)):
            rights += worth * (streams[hot][0] - streams[cold][0] - gap) * hot_rate * cold_rate
            for at, pair in enumerate(structure):
                if at == index:
                    gains[at] -= worth * own
                elif at < index and pair[0] == hot:
                    gains[at] -= worth * cold_rate
                elif at > index and pair[1] == cold:
                    gains[at] -= worth * hot_rate
    for (hot, _), gain in zip(structure, gains):
        if gain > (1 if found and hot == -1 else 0):
            return None
    return sum(one * heat(stream) for one, stream in zip(u, streams)) - rights


def is_paper(problem, structure, value):
    """Return whether a value is a paper of the best loads, whose sum its own and theirs prove, or of there being none."""
    best = best_loads(problem, structure)
    if type(value) is not tuple or len(value) != 3 or type(value[0]) is not bool or value[0] != (best is not None):
        return False
    if type(value[1]) is not tuple or type(value[2]) is not tuple or any(type(pair) is not tuple for pair in value[2]):
        return False
    shown = paper_sum(problem, structure, value)
    if shown is None:
        return False
    return shown == Fraction(*best[0]) if best else shown > 0


def bent(value, chance):
    """Return a value with one number of it changed, a tuple that is longer or shorter or a list."""
    if type(value) is bool or value is None:
        return chance.choice((None, not value, 0, 1))
    if type(value) is int:
        return value + chance.choice((-1, 1, 2, -value, -2 * value, 10 ** 20))
    kind = chance.randint(0, 9)
    if kind == 0 or not value:
        return value + (chance.choice(((0, 1), (1, 1), None, 0)),)
    if kind == 1:
        return value[1:]
    if kind == 2:
        return list(value)
    at = chance.randrange(len(value))
    return value[:at] + (bent(value[at], chance),) + value[at + 1:]


class TestLoads(unittest.TestCase):
    def test_loads_and_papers_prove_each_other(self):
        counts = {True: 0, False: 0}
        for problem, structure in cases(211, 40):
            best, paper = best_loads(problem, structure), load_paper(problem, structure)
            where = (problem, structure, best, paper)
            self.assertIs(paper[0], best is not None, where)
            self.assertIs(shows_loads(problem, structure, best), True, where)
            self.assertIs(shows_paper(problem, structure, paper), True, where)
            self.assertTrue(is_paper(problem, structure, paper), where)
            counts[paper[0]] += 1
            if best is not None:
                self.assertEqual(shown_heating(problem, structure, best), Fraction(*best[0]), where)
                self.assertGreaterEqual(Fraction(*best[0]), least_outside(problem)[0], where)
        self.assertGreater(min(counts.values()), 50, counts)

    def test_by_trying_all_loads(self):
        chance = random.Random(212)
        counts = [0, 0]
        for _ in range(150):
            problem = oracles.random_problem(chance, 3, 0, span=6, rate=1, gap=2)
            structure = random_structure(chance, problem[0], 3)
            best = best_loads(problem, structure)
            highest = max(heat(stream) for stream in problem[0])
            found = [loads_heating(problem, structure, loads) for loads in self.choices(len(structure), highest)]
            found = [heating for heating in found if heating is not None]
            counts[best is not None] += 1
            self.assertEqual(best is not None, bool(found), (problem, structure))
            if found:
                self.assertEqual(Fraction(*best[0]), min(found), (problem, structure, best))
        self.assertGreater(min(counts), 10, counts)

    def choices(self, many, highest):
        """Return all tuples of so many loads at half degrees."""
        found = [()]
        for _ in range(many):
            found = [loads + (Fraction(part, 2),) for loads in found for part in range(2 * highest + 1)]
        return found

    def test_sound_networks(self):
        problem = (((180, 60, 2), (20, 100, 3)), (), 10)
        self.assertEqual(best_loads(problem, ((0, 1), (-1, 1), (0, -1))), ((0, 1), ((240, 1), (0, 1), (0, 1))))
        self.assertEqual(best_loads(problem, ((-1, 1), (0, -1))), ((240, 1), ((240, 1), (240, 1))))
        for network in (((-1, 1, 200), (0, 1, 40), (0, -1, 200)), ((0, 1, 240),)):
            self.assertIsNone(flaw(problem, network))
            best = best_loads(problem, tuple(pair[:2] for pair in network))
            self.assertLessEqual(best[0][0], outside_of(problem, network)[0])

    def test_no_loads(self):
        for structure in ((), ((0, -1),), ((-1, 1),), ((0, -1), (0, -1))):
            self.assertIsNone(best_loads(PROBLEM, structure))
            paper = load_paper(PROBLEM, structure)
            self.assertEqual((paper[0], paper[2]), (False, (((0, 1), (0, 1)),) * len(structure)))
            self.assertTrue(is_paper(PROBLEM, structure, paper))
            self.assertIs(shows_loads(PROBLEM, structure, None), True)
            self.assertIs(shows_paper(PROBLEM, structure, paper), True)

    def test_pairs_without_a_load(self):
        # The pair cannot have any load, and its temperatures do not keep the gap even so.
        problem = (((50, 40, 1), (60, 70, 1)), (), 0)
        pairs = ((0, -1), (-1, 1))
        self.assertEqual(best_loads(problem, pairs), ((10, 1), ((10, 1), (10, 1))))
        self.assertIsNone(best_loads(problem, ((0, 1),) + pairs))
        self.assertIsNone(best_loads(problem, pairs + ((0, 1),)))
        # At the level of both starts a pair with the load 0 keeps a gap of 0, but only ahead of all others.
        problem = (((60, 50, 1), (60, 70, 1)), (), 0)
        self.assertEqual(best_loads(problem, ((0, 1), (-1, 1), (0, -1))), None)
        self.assertEqual(best_loads(problem, ((-1, 1), (0, 1), (0, -1))), ((10, 1), ((10, 1), (0, 1), (10, 1))))
        self.assertIs(shows_loads(problem, ((-1, 1), (0, 1), (0, -1)), ((10, 1), ((10, 1), (0, 1), (10, 1)))), True)
        self.assertIsNone(best_loads(problem, ((0, -1), (0, 1), (-1, 1))))
        self.assertIsNone(best_loads((problem[0], (), 1), ((-1, 1), (0, 1), (0, -1))))

    def test_gap_at_its_edge(self):
        # The hot stream goes out at 60, where the cold one comes in at 20.
        for gap, expected in ((40, True), (41, False)):
            problem = (STREAMS, (), gap)
            self.assertIs(best_loads(problem, ((0, 1),)) is not None, expected)
        problem = (((100, 60, 1), (20, 100, 1)), (), 0)
        self.assertEqual(best_loads(problem, ((-1, 1), (0, 1))), ((40, 1), ((40, 1), (40, 1))))
        self.assertEqual(best_loads((problem[0], (), 40), ((-1, 1), (0, 1))), ((40, 1), ((40, 1), (40, 1))))
        self.assertIsNone(best_loads((problem[0], (), 41), ((-1, 1), (0, 1))))

    def test_ratios(self):
        # Two thirds of a degree: 3 of the hot stream for each 2 of the cold one.
        problem = (((100, 60, 3), (50, 90, 2)), (), 10)
        value = best_loads(problem, ((-1, 1), (0, 1), (0, -1)))
        self.assertEqual(value, ((0, 1), ((0, 1), (80, 1), (40, 1))))
        problem = (((100, 50, 3), (20, 95, 7), (92, 30, 5)), (), 7)
        structure = ((-1, 1), (0, 1), (2, 1), (0, 1), (0, -1), (2, -1))
        heating, loads = best_loads(problem, structure)
        self.assertEqual(shown_heating(problem, structure, (heating, loads)), Fraction(*heating))
        self.assertTrue(all(is_ratio(load) for load in loads))

    def test_loads_that_are_no_integers(self):
        found = [best_loads(problem, structure) for problem, structure in cases(213, 25)]
        self.assertTrue(any(value is not None and value[0][1] > 1 for value in found))

    def test_price_of_what_is_lacking(self):
        # However cheap it is at first, that streams lack heat, it comes to loads that leave nothing lacking.
        problem = (((135, 27, 9), (13, 130, 1), (74, 129, 2), (51, 165, 9)), (), 5)
        structure = ((0, 2), (-1, 3), (0, 1), (-1, 1), (0, 2), (0, -1), (-1, 2))
        self.assertEqual(best_loads(problem, structure)[0], (1134, 1))
        rows = [row for row in cases(218, 15) if best_loads(*row)] + [(problem, structure)]
        expected = [best_loads(*row)[0] for row in rows]
        raised = []

        def watched(streams, gap, structure, costs, price):
            raised.append(price)
            return priced_loading(streams, gap, structure, costs, price)

        with mock.patch.object(loading, "STEP", 2), mock.patch.object(loading, "priced_loading", watched):
            self.assertEqual([best_loads(*row)[0] for row in rows], expected)
            for row in rows:
                self.assertTrue(is_paper(*row, load_paper(*row)))
        self.assertEqual(max(raised), 64)

    def test_largest(self):
        streams = ((1000, 0, 100), (0, 1000, 100), (1000, 0, 99), (0, 1000, 97), (1000, 500, 1), (0, 500, 1))
        structure = ((-1, 1), (-1, 3), (0, 1), (2, 3), (4, 5), (0, 3), (2, 1), (0, -1), (2, -1), (4, -1))
        for gap in (0, 100):
            problem = (streams, (), gap)
            value = best_loads(problem, structure)
            self.assertEqual(shown_heating(problem, structure, value), Fraction(*value[0]))
            self.assertTrue(is_paper(problem, structure, load_paper(problem, structure)))
            self.assertIsNone(best_loads(problem, structure[:4] + structure[5:]))


class TestShown(unittest.TestCase):
    def test_values_near_loads(self):
        chance = random.Random(214)
        shown = 0
        for problem, structure in cases(215, 8):
            value = best_loads(problem, structure)
            if value is None:
                for near in ((), ((0, 1), ()), ((0, 1), ((0, 1),) * len(structure)), False, 0):
                    self.assertIs(shows_loads(problem, structure, near), False)
                continue
            self.assertIs(shows_loads(problem, structure, None), False)
            for _ in range(40):
                near = bent(value, chance)
                expected = shown_heating(problem, structure, near) == Fraction(*value[0])
                self.assertIs(shows_loads(problem, structure, near), expected, (problem, structure, near))
                shown += expected

    def test_other_loads_with_the_same_sum(self):
        problem, structure = (STREAMS, (), 10), ((0, 1), (0, 1))
        for part in (0, 1, 100, 239, 240):
            loads = ((part, 1), (240 - part, 1))
            self.assertIs(shows_loads(problem, structure, ((0, 1), loads)), True, loads)
            self.assertIs(shows_loads(problem, structure, ((1, 1), loads)), False, loads)
        self.assertIs(shows_loads(problem, structure, ((0, 1), ((1, 3), (719, 3)))), True)
        self.assertIs(shows_loads(problem, structure, ((0, 1), ((-1, 3), (721, 3)))), False)
        self.assertIs(shows_loads(problem, structure, ((0, 1), ((2, 6), (719, 3)))), False)
        self.assertIs(shows_loads(problem, structure, ((0, 2), ((1, 3), (719, 3)))), False)
        self.assertIs(shows_loads(problem, structure, ((0, True), ((0, 1), (240, 1)))), False)
        self.assertIs(shows_loads(problem, structure, ((False, 1), ((0, 1), (240, 1)))), False)
        self.assertIs(shows_loads(problem, structure, ((0, 1), ((0, 1), (240, True)))), False)
        self.assertIs(shows_loads(problem, structure, ((0, 1), [(0, 1), (240, 1)])), False)
        self.assertIs(shows_loads(problem, structure, [(0, 1), ((0, 1), (240, 1))]), False)
        self.assertIs(shows_loads(problem, structure, ((0, 1), ([0, 1], (240, 1)))), False)
        self.assertIs(shows_loads(problem, structure, ((0, 1), ((0, 1), (240, 1)), ())), False)

    def test_loads_that_do_not_keep_the_gap(self):
        # All sums are right whatever the first and the last load share; the one between keeps the gap only for (20, 20, 0).
        problem, structure = (((100, 80, 1), (50, 30, 1), (20, 60, 1)), (), 10), ((0, 2), (1, 2), (0, 2))
        self.assertEqual(best_loads(problem, structure), ((0, 1), ((20, 1), (20, 1), (0, 1))))
        for part in range(21):
            value = ((0, 1), ((part, 1), (20, 1), (20 - part, 1)))
            self.assertIs(shows_loads(problem, structure, value), part == 20, part)
            self.assertIs(shows_loads((problem[0], (), 9), structure, value), part >= 19, part)
        self.assertIs(shows_loads((problem[0], (), 9), structure, ((0, 1), ((37, 2), (20, 1), (3, 2)))), False)
        self.assertIs(shows_loads((problem[0], (), 9), structure, ((0, 1), ((39, 2), (20, 1), (1, 2)))), True)
        # On the other side of the exchanger in between: the hot stream's way out and the cold one's way in.
        problem = (((100, 80, 1), (50, 30, 2), (20, 80, 1)), (), 0)
        for part in range(21):
            value = ((0, 1), ((part, 1), (40, 1), (20 - part, 1)))
            self.assertIs(shows_loads(problem, structure, value), shown_heating(problem, structure, value) == 0, part)

    def test_worse_loads(self):
        structure = ((-1, 1), (0, 1), (0, -1))
        self.assertIs(shows_loads(PROBLEM, structure, ((0, 1), ((0, 1), (240, 1), (0, 1)))), True)
        self.assertIs(shows_loads(PROBLEM, structure, ((10, 1), ((10, 1), (230, 1), (10, 1)))), False)
        self.assertIs(shows_loads(PROBLEM, structure, ((0, 1), ((10, 1), (230, 1), (10, 1)))), False)

    def test_values_near_papers(self):
        chance = random.Random(216)
        shown = 0
        for problem, structure in cases(217, 10):
            paper = load_paper(problem, structure)
            for _ in range(40):
                near = bent(paper, chance)
                expected = is_paper(problem, structure, near)
                self.assertIs(shows_paper(problem, structure, near), expected, (problem, structure, near))
                shown += expected
        self.assertGreater(shown, 20)

    def test_scaled_papers(self):
        # Of there being no loads any multiple is a paper, of the best loads only what has their sum.
        for structure in ((), ((-1, 1),), ((-1, 1), (0, -1))):
            found, u, w = load_paper(PROBLEM, structure)
            doubled = (found, self.twice(u), tuple(self.twice(pair) for pair in w))
            self.assertIs(found, len(structure) == 2)
            self.assertIs(shows_paper(PROBLEM, structure, doubled), not found)

    def twice(self, row):
        doubled = [2 * Fraction(*one) for one in row]
        return tuple((one.numerator, one.denominator) for one in doubled)

    def test_papers_of_a_problem(self):
        # One pair of heating and one of cooling: a unit of the cold stream costs 1.
        structure = ((-1, 1), (0, -1))
        zero = ((0, 1), (0, 1))
        self.assertIs(shows_paper(PROBLEM, structure, (True, ((0, 1), (1, 1)), (zero, zero))), True)
        for value in (
            (1, ((0, 1), (1, 1)), (zero, zero)), (False, ((0, 1), (1, 1)), (zero, zero)),
            (True, ((0, 1), (True, 1)), (zero, zero)), (True, ((0, 1), (1, True)), (zero, zero)),
            (True, ((0, 2), (1, 1)), (zero, zero)), (True, ((0, 1), (2, 2)), (zero, zero)),
            (True, ((1, 240), (239, 240)), (zero, zero)), (True, ((-1, 1), (2, 1)), (zero, zero)),
            (True, ((0, 1), (1, 1), (0, 1)), (zero, zero)), (True, ((0, 1),), (zero, zero)),
            (True, ((0, 1), (1, 1)), (zero,)), (True, ((0, 1), (1, 1)), (zero, zero, zero)),
            (True, ((0, 1), (1, 1)), (zero, ((0, 1), (1, 1)))), (True, ((0, 1), (1, 1)), (zero, ((0, 1),))),
            (True, ((0, 1), (1, 1)), (zero, ((0, 1), (0, 1), (0, 1)))), (True, ((0, 1), (1, 1)), (zero, None)),
            (True, [(0, 1), (1, 1)], (zero, zero)), (True, ((0, 1), (1, 1)), [zero, zero]), [True, ((0, 1), (1, 1)), (zero, zero)],
            (True, ((0, 1), (1, 1)), (zero, [(0, 1), (0, 1)])), (True, ((0, 1), (1, 1)), (zero, ([0, 1], (0, 1)))),
            (True, ((0, 1), (1, 1)), (zero, zero), ()), (True, ((0, 1), (1, 1))), (None, ((0, 1), (1, 1)), (zero, zero)),
            (True, ((0, 1), (1, 1)), (zero, ((0, True), (0, 1)))), (True, ((0, 1), (1, 1)), (zero, ((False, 1), (0, 1)))),
            (True, None, (zero, zero)), (True, ((0, 1), (1, 1)), None), (True, ((0, 1), None), (zero, zero)), None, False, {},
        ):
            self.assertIs(shows_paper(PROBLEM, structure, value), False, value)
        self.assertIs(shows_paper(PROBLEM, (), (False, ((1, 1), (0, 1)), ())), True)
        self.assertIs(shows_paper(PROBLEM, (), (False, ((-1, 1), (1, 1)), ())), False)
        self.assertIs(shows_paper(PROBLEM, (), (False, ((1, 240), (0, 1)), ())), True)
        self.assertIs(shows_paper(PROBLEM, (), (False, ((-1, 1), (100001, 100000)), ())), True)
        self.assertIs(shows_paper(PROBLEM, (), (False, ((0, 1), (0, 1)), ())), False)
        self.assertIs(shows_paper(PROBLEM, (), (False, ((1, 1), (-100001, 100000)), ())), False)
        self.assertIs(shows_paper(PROBLEM, (), (False, ((-1, 1), (2, 1)), ())), True)
        self.assertIs(shows_paper(PROBLEM, (), (True, ((1, 1), (0, 1)), ())), False)
        self.assertIs(shows_paper(PROBLEM, (), (0, ((1, 1), (0, 1)), ())), False)

    def test_conditions_as_the_document_writes_them(self):
        # One of the hot stream's two pairs has a limit of 0: its sum of factors is 0 at most.
        problem = (((60, 50, 3), (60, 70, 2), (20, 30, 1)), (), 0)
        structure = ((0, 2), (0, 1))
        self.assertIsNone(best_loads(problem, structure))
        zero, one = (0, 1), (1, 1)
        # The load before it on its hot stream counts with the cold rate 2, its own with 3 or 2.
        for u, w, expected in (
            ((zero, zero, (2, 1)), ((zero, zero), (one, zero)), True),
            ((zero, zero, (2, 1)), ((zero, zero), (zero, one)), True),
            ((zero, (3, 1), zero), ((zero, zero), (one, zero)), True),
            ((zero, (3, 1), zero), ((zero, zero), (zero, one)), False),
            ((zero, (2, 1), zero), ((zero, zero), (zero, one)), True),
            ((zero, zero, (3, 1)), ((zero, zero), (one, zero)), False),
            ((zero, (5, 1), (4, 1)), ((zero, zero), (one, one)), True),
            ((zero, (6, 1), (4, 1)), ((zero, zero), (one, one)), False),
            ((zero, (5, 1), (5, 1)), ((zero, zero), (one, one)), False),
        ):
            self.assertIs(shows_paper(problem, structure, (False, u, w)), expected, (u, w))
        # A load behind it on its cold stream counts with the hot rate 3.
        problem = (((60, 50, 3), (60, 70, 2), (90, 80, 1)), (), 0)
        structure = ((0, 1), (2, 1))
        for u, expected in (((zero, zero, (3, 1)), True), ((zero, zero, (4, 1)), False), (((3, 1), zero, (3, 1)), True),
                            (((4, 1), zero, (3, 1)), False)):
            self.assertIs(shows_paper(problem, structure, (False, u, ((one, zero), (zero, zero)))), expected, u)
        self.assertIs(shows_paper(problem, structure, (False, ((3, 1), zero, zero), ((zero, one), (zero, zero)))), False)
        self.assertIs(shows_paper(problem, structure, (False, ((2, 1), zero, zero), ((zero, one), (zero, zero)))), True)


class TestFaults(Faults, unittest.TestCase):
    def test_problems(self):
        faults = problem_faults() + [((STREAMS, (BOX,), 10), errors.HasBoxes()), (((), (BOX,), 10), errors.HasBoxes())]
        for value, error in faults:
            for structure in ((), ((0, 1),), None, ((0, 0),)):
                self.assert_fault(error, best_loads, value, structure)
                self.assert_fault(error, load_paper, value, structure)
                for function in SHOWING:
                    self.assert_fault(error, function, value, structure, None)

    def test_structures(self):
        for value, error in structure_faults():
            self.assert_fault(error, best_loads, NETWORKED, value)
            self.assert_fault(error, load_paper, NETWORKED, value)
            for function in SHOWING:
                for last in (None, 0, ((0, 1), ())):
                    self.assert_fault(error, function, NETWORKED, value, last)

    def test_limits(self):
        self.assertIsNone(best_loads(NETWORKED, ((0, 1),) * 10))
        self.assertIsNotNone(best_loads(PROBLEM, ((0, 1),) * 10))
        self.assert_fault(errors.BadStructure(None), best_loads, PROBLEM, ((0, 1),) * 11)

    def test_last_arguments(self):
        self.assert_truths(shows_loads, PROBLEM, ((0, 1),))
        self.assert_truths(shows_loads, PROBLEM, (), but=(None,))
        for structure in ((), ((0, 1),), ((-1, 1), (0, -1))):
            self.assert_truths(shows_paper, PROBLEM, structure)
        for value in JUNK:
            for near in ((value, ((240, 1),)), ((0, 1), value), ((0, 1), (value,))):
                self.assertIs(shows_loads(PROBLEM, ((0, 1),), near), repr(near) == "((0, 1), ((240, 1),))", near)
            zero = ((0, 1), (0, 1))
            for near in ((value, zero, (zero,)), (True, value, (zero,)), (True, zero, value), (True, zero, (value,)),
                         (True, (value, (0, 1)), (zero,)), (True, zero, ((value, (0, 1)),))):
                same = value is True or value == (0, 1) and type(value) is tuple and type(value[0]) is int
                if not same and value != (zero,):
                    self.assertIs(shows_paper(PROBLEM, ((0, 1),), near), False, near)


if __name__ == "__main__":
    unittest.main()
