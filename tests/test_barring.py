"""pinchworks.barring: point 6."""

import random
import unittest

from pinchworks import errors
from pinchworks.barring import barred_outside, barred_paper, matches, passing, shows_barred, shows_passing
from pinchworks.cascades import least_outside
from tests import oracles
from tests.faults import BARRABLE, Faults, barred_faults, problem_faults

OF_TWO = (barred_outside, barred_paper, passing, matches)
OF_THREE = (shows_barred, shows_passing)


def cases(seed, many, streams=4, boxes=3):
    """Return pairs (problem, barred): none, some or all pairs barred."""
    chance = random.Random(seed)
    rows = []
    for _ in range(many):
        problem = oracles.random_problem(chance, streams, boxes)
        rows.append((problem, oracles.random_barred(chance, problem)))
        problem = oracles.random_problem(chance, streams, boxes, span=8, rate=3, heat=9, gap=3)
        rows.append((problem, oracles.random_barred(chance, problem)))
    return rows


def tiny_cases(seed, many):
    chance = random.Random(seed)
    rows = []
    for _ in range(many):
        problem = oracles.tiny_problem(chance, 3, 2)
        rows.append((problem, oracles.random_barred(chance, problem)))
    return rows


def pairs_of(problem):
    """Return all pairs (giver, taker)."""
    kinds = {number: heat > 0 for number, _, _, heat in oracles.slices(problem)}
    return tuple((one, other) for one in sorted(kinds) for other in sorted(kinds) if kinds[one] and not kinds[other])


def heats(problem):
    """Return all heat that is given off and all that is taken in."""
    pieces = oracles.slices(problem)
    return sum(piece[3] for piece in pieces if piece[3] > 0), -sum(piece[3] for piece in pieces if piece[3] < 0)


class TestOutside(unittest.TestCase):
    def test_none_barred(self):
        for problem, _ in cases(21, 60, 6, 4):
            self.assertEqual(barred_outside(problem, ()), least_outside(problem), problem)

    def test_all_barred(self):
        for problem, _ in cases(22, 30, 6, 4):
            given, taken = heats(problem)
            self.assertEqual(barred_outside(problem, pairs_of(problem)), (taken, given), problem)

    def test_by_trying_all_choices(self):
        for problem, barred in tiny_cases(23, 150):
            given, taken = oracles.spots(problem)
            passed = oracles.most_passed(given, taken, barred)
            expected = (sum(taken.values()) - passed, sum(given.values()) - passed)
            self.assertEqual(barred_outside(problem, barred), expected, (problem, barred))

    def test_by_trying_all_papers(self):
        for problem, barred in cases(24, 60, 3, 2)[1::2]:
            heating, cooling = barred_outside(problem, barred)
            given, taken = heats(problem)
            self.assertEqual(heating, oracles.barred_heating(problem, barred), (problem, barred))
            self.assertEqual(cooling - heating, given - taken)


class TestPapers(unittest.TestCase):
    def test_papers(self):
        for problem, barred in cases(25, 60, 6, 4):
            heating, _ = barred_outside(problem, barred)
            paper = barred_paper(problem, barred)
            self.assertIs(shows_barred(problem, barred, paper), True, (problem, barred, paper))
            if heating == 0:
                self.assertIsNone(paper)
                continue
            takers = {number for number, _, _, heat in oracles.slices(problem) if heat < 0}
            self.assertEqual((type(paper), len(paper)), (tuple, len(takers)))
            for edge in paper:
                if edge is not None:
                    self.assertEqual([type(part) for part in edge], [int, bool])
            self.assertEqual(oracles.barred_lack(problem, barred, paper), heating, (problem, barred, paper))

    def test_which_papers_are_shown(self):
        shown = 0
        for problem, barred in cases(26, 30, 4, 3):
            heating, _ = barred_outside(problem, barred)
            paper = barred_paper(problem, barred)
            if paper is None:
                takers = {number for number, _, _, heat in oracles.slices(problem) if heat < 0}
                self.assertIs(shows_barred(problem, barred, (None,) * len(takers)), False)
                continue
            edges = [None] + [(level, is_open) for level in oracles.all_levels(problem) for is_open in (True, False)]
            for at in range(len(paper)):
                for edge in edges + [(10 ** 20, False), (-10 ** 20, True)]:
                    near = paper[:at] + (edge,) + paper[at + 1:]
                    expected = oracles.barred_lack(problem, barred, near) == heating
                    self.assertIs(shows_barred(problem, barred, near), expected, (problem, barred, near))
                    shown += expected and near != paper
            for near in (None, list(paper), paper[1:], paper + (None,)):
                self.assertIs(shows_barred(problem, barred, near), False, (problem, barred, near))
        self.assertGreater(shown, 20)

    def test_open_levels(self):
        # The hot stream may not heat the box, the giving box may heat all.
        problem = (((100, 50, 1),), ((50, -30), (80, 10)), 0)
        self.assertEqual(barred_outside(problem, ((0, 1),)), (20, 50))
        self.assertIs(shows_barred(problem, ((0, 1),), ((50, False),)), True)
        self.assertIs(shows_barred(problem, ((0, 1),), ((50, True),)), False)
        self.assertIs(shows_barred(problem, ((0, 1),), ((49, True),)), True)
        self.assertIs(shows_barred(problem, ((0, 1),), ((51, False),)), False)
        self.assertIs(shows_barred(problem, ((0, 1),), (None,)), False)

    def test_of_equal_levels_the_closed_one_is_lower(self):
        problem = ((), ((50, -9), (50, 4), (40, -1)), 0)
        self.assertEqual(barred_outside(problem, ()), (6, 0))
        # Taken in are 9 at the level 50 and nothing above 40; the giver's 4 count once.
        self.assertIs(shows_barred(problem, (), ((50, False), (40, False))), True)
        self.assertIs(shows_barred(problem, (), ((50, False), (40, True))), False)
        other = ((), ((50, -9), (50, 4), (50, -1)), 0)
        self.assertEqual(barred_outside(other, ()), (6, 0))
        self.assertIs(shows_barred(other, (), ((50, False), (50, False))), True)
        self.assertIs(shows_barred(other, (), ((50, False), (50, True))), False)
        self.assertIs(shows_barred(other, ((1, 2),), ((50, False), (50, False))), True)
        self.assertEqual(barred_outside(other, ((1, 2),)), (6, 0))
        self.assertEqual(barred_outside(other, ((1, 0),)), (9, 3))
        self.assertIs(shows_barred(other, ((1, 0),), ((50, False), None)), True)
        self.assertIs(shows_barred(other, ((1, 0),), ((50, False), (50, True))), True)
        self.assertIs(shows_barred(other, ((1, 0),), ((50, False), (50, False))), False)

    def test_no_heating(self):
        problem = (((100, 50, 1), (20, 60, 1)), (), 10)
        self.assertIsNone(barred_paper(problem, ()))
        self.assertIs(shows_barred(problem, (), None), True)
        self.assertIs(shows_barred(problem, (), ((200, False),)), False)
        self.assertEqual(barred_outside(problem, ((0, 1),)), (40, 50))
        self.assertIs(shows_barred(problem, ((0, 1),), None), False)


class TestPassing(unittest.TestCase):
    def test_passings(self):
        for problem, barred in cases(27, 60, 6, 4):
            heating, _ = barred_outside(problem, barred)
            value = passing(problem, barred)
            self.assertTrue(all(type(entry) is tuple and len(entry) == 5 for entry in value))
            self.assertTrue(oracles.is_passing(problem, barred, value, heating), (problem, barred, value))
            self.assertIs(shows_passing(problem, barred, value), True, (problem, barred, value))

    def test_which_passings_are_shown(self):
        shown = 0
        for problem, barred in cases(28, 30, 4, 3):
            heating, _ = barred_outside(problem, barred)
            value = passing(problem, barred)
            kinds = {number: heat > 0 for number, _, _, heat in oracles.slices(problem)}
            nears = [value[:-1], value[::-1], value + value[-1:], list(value), (*value, (0, 0, 0, 0, 0))]
            for at, entry in enumerate(value):
                for side in range(5):
                    for step in (-1, 1):
                        other = entry[:side] + (entry[side] + step,) + entry[side + 1:]
                        nears.append(value[:at] + (other,) + value[at + 1:])
                        nears.append(tuple(sorted(nears[-1])))
                nears.append(value[:at] + (list(entry),) + value[at + 1:])
                if entry[4] > 1:
                    nears.append(value[:at] + (entry[:4] + (entry[4] - 1,), entry[:4] + (1,)) + value[at + 1:])
                    nears.append(value[:at] + (entry[:4] + (1,), entry[:4] + (entry[4] - 1,)) + value[at + 1:])
            for near in nears:
                is_plain = isinstance(near, tuple) and all(isinstance(entry, tuple) for entry in near)
                is_named = is_plain and all(
                    kinds.get(entry[0], False) and not kinds.get(entry[2], True) for entry in near
                )
                expected = is_named and oracles.is_passing(problem, barred, near, heating)
                self.assertIs(shows_passing(problem, barred, near), expected, (problem, barred, near))
                shown += expected and near != value
        self.assertGreater(shown, 0)

    def test_places(self):
        problem = (((100, 50, 1), (20, 60, 1)), (), 10)
        # The levels are 90, 60, 40 and 20.
        self.assertIs(shows_passing(problem, (), ((0, 1, 1, 3, 20), (0, 1, 1, 5, 10), (0, 3, 1, 5, 10))), True)
        self.assertIs(shows_passing(problem, (), ((0, 1, 1, 3, 20), (0, 1, 1, 5, 11), (0, 3, 1, 5, 9))), False)
        self.assertIs(shows_passing(problem, (), ((0, 1, 1, 5, 20), (0, 3, 1, 3, 20))), True)
        self.assertIs(shows_passing(problem, (), ((0, 1, 1, 5, 20), (0, 3, 1, 3, 21))), False)
        self.assertIs(shows_passing(problem, (), ((0, 1, 1, 5, 20), (0, 3, 1, 3, 19))), False)
        self.assertIs(shows_passing(problem, (), ((0, 0, 1, 5, 20), (0, 3, 1, 3, 20))), False)
        self.assertIs(shows_passing(problem, (), ((0, 1, 1, 6, 20), (0, 3, 1, 3, 20))), False)
        self.assertIs(shows_passing(problem, (), ((0, 1, 1, 7, 20), (0, 3, 1, 3, 20))), False)
        self.assertIs(shows_passing(problem, ((0, 1),), ((0, 1, 1, 5, 20), (0, 3, 1, 3, 20))), False)
        self.assertIs(shows_passing(problem, ((0, 1),), ()), True)
        self.assertIs(shows_passing(problem, (), ()), False)

    def test_heats_are_positive(self):
        problem = ((), ((90, 5), (80, 5), (20, -5), (10, -5)), 0)
        self.assertIs(shows_passing(problem, (), ((0, 0, 2, 4, 5), (1, 2, 3, 6, 5))), True)
        self.assertIs(shows_passing(problem, (), ((0, 0, 2, 4, 5), (0, 0, 3, 6, 0), (1, 2, 3, 6, 5))), False)
        nears = ((0, 0, 2, 4, 5), (0, 0, 3, 6, -1), (1, 2, 2, 4, 1), (1, 2, 3, 6, 5))
        self.assertIs(shows_passing(problem, (), nears), False)
        nears = ((0, 0, 2, 4, 4), (0, 0, 3, 6, 1), (1, 2, 2, 4, 1), (1, 2, 3, 6, 4))
        self.assertIs(shows_passing(problem, (), nears), True)

    def test_one_level(self):
        problem = ((), ((50, -9), (50, 4)), 0)
        self.assertEqual(passing(problem, ()), ((1, 0, 0, 0, 4),))
        self.assertEqual(passing(problem, ((1, 0),)), ())
        self.assertEqual(passing(((), ((50, -9), (50, 4)), 1), ()), ())

    def test_boxes_at_the_ends_of_streams(self):
        problem = (((100, 50, 1),), ((50, -50),), 0)
        self.assertEqual(passing(problem, ()), ((0, 1, 1, 2, 50),))
        problem = (((50, 100, 1),), ((100, 50),), 0)
        self.assertEqual(passing(problem, ()), ((1, 0, 0, 1, 50),))

    def test_matches(self):
        for problem, barred in cases(29, 40, 6, 4):
            heating, _ = barred_outside(problem, barred)
            value = matches(problem, barred)
            self.assertEqual(list(value), sorted(value))
            pairs = [pair[:2] for pair in value]
            self.assertEqual(len(set(pairs)), len(pairs))
            self.assertTrue(set(pairs) <= set(pairs_of(problem)) - set(barred), (problem, barred, value))
            self.assertTrue(all(type(entry) is tuple and entry[2] > 0 for entry in value))
            self.assertEqual(sum(entry[2] for entry in value), heats(problem)[1] - heating)

    def test_matches_by_trying_all_choices(self):
        for problem, barred in tiny_cases(30, 60):
            given, taken = oracles.spots(problem)
            most = oracles.most_passed(given, taken, barred)
            sums = set()
            for heat in oracles.passings(given, taken, barred):
                if sum(heat.values()) == most:
                    pairs = {}
                    for (giver, _, taker, _), some in heat.items():
                        pairs[(giver, taker)] = pairs.get((giver, taker), 0) + some
                    sums.add(tuple(sorted((*pair, some) for pair, some in pairs.items())))
            self.assertIn(matches(problem, barred), sums, (problem, barred))


class TestEdges(unittest.TestCase):
    def test_no_takers(self):
        problem = (((180, 60, 2),), ((50, 7),), 10)
        self.assertEqual(barred_outside(problem, ()), (0, 247))
        self.assertIsNone(barred_paper(problem, ()))
        self.assertEqual((passing(problem, ()), matches(problem, ())), ((), ()))
        self.assertIs(shows_passing(problem, (), ()), True)
        self.assertIs(shows_barred(problem, (), None), True)
        self.assertIs(shows_barred(problem, (), ()), False)

    def test_no_givers(self):
        problem = (((20, 100, 3),), ((50, -7),), 10)
        self.assertEqual(barred_outside(problem, ()), (247, 0))
        paper = barred_paper(problem, ())
        self.assertEqual(oracles.barred_lack(problem, (), paper), 247)
        self.assertEqual((passing(problem, ()), matches(problem, ())), ((), ()))
        self.assertIs(shows_passing(problem, (), ()), True)

    def test_largest(self):
        streams = ((1000, 0, 100),) * 3 + ((0, 1000, 100),) * 3
        problem = (streams, ((1000, 10000), (0, -10000), (900, -10000), (100, 10000)), 100)
        self.assertEqual(barred_outside(problem, ()), least_outside(problem))
        for barred in [(), pairs_of(problem)[::2], pairs_of(problem)[:-1]]:
            heating, cooling = barred_outside(problem, barred)
            self.assertEqual(heating, cooling)
            self.assertEqual(oracles.barred_lack(problem, barred, barred_paper(problem, barred)), heating)
            self.assertTrue(oracles.is_passing(problem, barred, passing(problem, barred), heating))


class TestFaults(Faults, unittest.TestCase):
    def test_problems(self):
        for value, error in problem_faults():
            for function in OF_TWO:
                self.assert_fault(error, function, value, ())
                self.assert_fault(error, function, value, None)
            for function in OF_THREE:
                self.assert_fault(error, function, value, True, None)

    def test_barred(self):
        for value, error in barred_faults():
            for function in OF_TWO:
                self.assert_fault(error, function, BARRABLE, value)
            for function in OF_THREE:
                self.assert_fault(error, function, BARRABLE, value, None)
                self.assert_fault(error, function, BARRABLE, value, ({}, []))

    def test_all_pairs_that_may_be_barred(self):
        barred = ((0, 1), (0, 2), (3, 1), (3, 2))
        self.assertEqual(barred_outside(BARRABLE, barred), (280, 270))
        self.assert_fault(errors.BadBarred(4), barred_outside, BARRABLE, barred + ((3, 2),))

    def test_last_arguments(self):
        self.assert_truths(shows_barred, BARRABLE, (), but=(((0, True), (1, False)),))
        self.assert_truths(shows_barred, (((180, 60, 2),), (), 10), (), but=(None,))
        self.assert_truths(shows_barred, (((1, 2, 3),), (), 10), (), but=(((0, False),),))
        self.assert_truths(shows_passing, BARRABLE, ())
        self.assert_truths(shows_passing, (((180, 60, 2),), (), 10), (), but=((),))
        self.assert_truths(shows_passing, ((), ((5, 1), (5, -1)), 0), (), but=())
        problem = ((), ((5, -1), (5, 1)), 0)
        self.assertIs(shows_passing(problem, (), ((1, 0, 0, 0, 1),)), True)
        for value in [((1, 0, 0, 0),), ((True, 0, 0, 0, 1),), ((1, False, 0, 0, 1),), ((1, 0, 0, 0, True),), ((1, 0, 0, 0, 1, 1),),
                      [(1, 0, 0, 0, 1)], ([1, 0, 0, 0, 1],), ((1, 0, 0, 0, 1), None), ((1, 0, 0, 0, "1"),)]:
            self.assertIs(shows_passing(problem, (), value), False, value)


if __name__ == "__main__":
    unittest.main()
