"""pinchworks.storing: point 10."""

import itertools
import random
import unittest

from pinchworks import errors
from pinchworks.cascades import least_outside
from pinchworks.storing import gap_curve, shows_stored, stored_outside, stored_paper
from tests import oracles
from tests.faults import BAD_FLAGS, BAD_GAPS, BOX, JUNK, STREAM, Faults, period_faults, problem_faults

WARM, COLD = (((100, 50, 1),), (), 0), (((40, 90, 1),), (), 0)
LARGEST = (((1000, 0, 100),) * 3 + ((0, 1000, 100),) * 3, ((1000, 10000), (0, -10000), (1000, -10000), (0, 10000)), 100)


def random_periods(chance, most, streams, boxes, **limits):
    """Return periods of random problems that all have the gap of the first one."""
    found = [oracles.random_problem(chance, streams, boxes, **limits) for _ in range(chance.randint(1, most))]
    return tuple((some, others, found[0][2]) for some, others, _ in found)


def cases(seed, many):
    """Return pairs (periods, is_round): streams alone, boxes alone and both, large and small ones."""
    chance = random.Random(seed)
    rows = []
    for _ in range(many):
        rows.append(random_periods(chance, 4, 6, 4))
        rows.append(random_periods(chance, 4, 4, 0, span=60))
        rows.append(random_periods(chance, 4, 0, 4, span=20, heat=9))
        rows.append(random_periods(chance, 4, 2, 2, span=6, rate=2, heat=6, gap=2))
    return [(periods, is_round) for periods in rows for is_round in (False, True)]


def spot(piece):
    """Return twice the level of a slice or box, less one for a slice, which lies below its level."""
    _, level, is_box, _ = piece
    return 2 * level - (not is_box)


def outside_by_degrees(periods, is_round):
    """Return the sums of heatings and coolings: each piece of heat that is taken in, those of the first
    period first, gets the heat from the lowest place that is not below it and may give to it."""
    givers, takers = [], []
    for period, problem in enumerate(periods):
        for piece in oracles.slices(problem):
            time = 0 if is_round else period
            (givers if piece[3] > 0 else takers).append([time, spot(piece), abs(piece[3])])
    givers.sort(key=lambda giver: giver[1])
    for taker in sorted(takers):
        for giver in givers:
            if giver[0] <= taker[0] and giver[1] >= taker[1]:
                heat = min(giver[2], taker[2])
                giver[2] -= heat
                taker[2] -= heat
        yield ("heating", taker[2])
    for giver in givers:
        yield ("cooling", giver[2])


def stored_by_degrees(periods, is_round):
    found = list(outside_by_degrees(periods, is_round))
    return tuple(sum(heat for kind, heat in found if kind == one) for one in ("heating", "cooling"))


def stored_lack(periods, is_round, value):
    """Return what the document lets a tuple of pairs or None, one for each period, show as lacking."""
    lack = 0
    for period, (problem, edge) in enumerate(zip(periods, value)):
        pieces = oracles.slices(problem)
        helped = [one for later, one in enumerate(value) if one is not None and (is_round or later >= period)]
        for piece in pieces:
            if piece[3] < 0 and edge is not None and oracles.is_above(piece, *edge):
                lack -= piece[3]
            # Above any of several levels is above the lowest one of them.
            if piece[3] > 0 and any(oracles.is_above(piece, *one) for one in helped):
                lack -= piece[3]
    return lack


def all_edges(periods):
    levels = sorted({level for problem in periods for level in oracles.all_levels(problem)})
    return [None] + [(level, is_open) for level in levels for is_open in (False, True)]


class TestOutside(unittest.TestCase):
    def test_by_degrees(self):
        for periods, is_round in cases(101, 30):
            expected = stored_by_degrees(periods, is_round)
            self.assertEqual(stored_outside(periods, is_round), expected, (periods, is_round))

    def test_by_trying_all_papers(self):
        chance = random.Random(102)
        for _ in range(40):
            periods = random_periods(chance, 3, 1, 2, span=6, rate=2, heat=6, gap=2)
            for is_round in (False, True):
                values = itertools.product(all_edges(periods), repeat=len(periods))
                expected = max(stored_lack(periods, is_round, value) for value in values)
                self.assertEqual(stored_outside(periods, is_round)[0], expected, (periods, is_round))

    def test_one_period(self):
        chance = random.Random(103)
        for _ in range(60):
            problem = oracles.random_problem(chance, 6, 4)
            for is_round in (False, True):
                self.assertEqual(stored_outside((problem,), is_round), least_outside(problem), problem)

    def test_order_of_periods(self):
        self.assertEqual(stored_outside((WARM, COLD), False), (0, 0))
        self.assertEqual(stored_outside((COLD, WARM), False), (50, 50))
        self.assertEqual(stored_outside((COLD, WARM), True), (0, 0))
        self.assertEqual(stored_outside((WARM, COLD, COLD), False), (50, 0))
        self.assertEqual(stored_outside((COLD, WARM, COLD), False), (50, 0))
        self.assertEqual(stored_outside((WARM, WARM, COLD), False), (0, 50))
        self.assertEqual(stored_outside((COLD, WARM, WARM), False), (50, 100))
        self.assertEqual(stored_outside((WARM, COLD, WARM, COLD), False), (0, 0))

    def test_levels_of_boxes(self):
        given = ((), ((60, 5),), 10)
        for temperature, expected in ((49, 0), (50, 0), (51, 5)):
            taken = ((), ((temperature, -5),), 10)
            for is_round in (False, True):
                self.assertEqual(stored_outside((given, taken), is_round), (expected, expected))
            self.assertEqual(stored_outside((taken, given), False), (5, 5))
            self.assertEqual(stored_outside((taken, given), True), (expected, expected))

    def test_gap_of_a_hundred(self):
        for start, expected in ((190, 0), (189, 1), (140, 50)):
            warm, cold = (((start, start - 50, 1),), (), 100), (((40, 90, 1),), (), 100)
            self.assertEqual(stored_outside((warm, cold), False), (expected, expected))

    def test_largest(self):
        self.assertEqual(stored_outside((LARGEST,) * 4, True), tuple(4 * heat for heat in least_outside(LARGEST)))
        self.assertEqual(stored_outside((LARGEST,) * 4, False), tuple(4 * heat for heat in least_outside(LARGEST)))
        givers, takers = (((1000, 0, 100),) * 6, (), 100), (((0, 1000, 100),) * 6, (), 100)
        self.assertEqual(stored_outside((givers, givers, takers, takers), False), (120000, 120000))
        self.assertEqual(stored_outside((takers, takers, givers, givers), False), (1200000, 1200000))


class TestPapers(unittest.TestCase):
    def test_papers(self):
        for periods, is_round in cases(104, 30):
            heating, _ = stored_by_degrees(periods, is_round)
            paper = stored_paper(periods, is_round)
            self.assertIs(shows_stored(periods, is_round, paper), True, (periods, is_round, paper))
            if heating == 0:
                self.assertIsNone(paper, (periods, is_round))
                continue
            self.assertEqual((type(paper), len(paper)), (tuple, len(periods)))
            for edge in paper:
                if edge is not None:
                    self.assertEqual([type(part) for part in edge], [int, bool])
            self.assertEqual(stored_lack(periods, is_round, paper), heating, (periods, is_round, paper))

    def test_which_papers_are_shown(self):
        shown = 0
        for periods, is_round in cases(105, 6):
            heating, _ = stored_outside(periods, is_round)
            paper = stored_paper(periods, is_round)
            if paper is None:
                self.assertIs(shows_stored(periods, is_round, (None,) * len(periods)), False)
                continue
            for at in range(len(paper)):
                for edge in all_edges(periods) + [(10 ** 20, False), (-10 ** 20, True), (1, True), (30, False)]:
                    near = paper[:at] + (edge,) + paper[at + 1:]
                    expected = stored_lack(periods, is_round, near) == heating
                    self.assertIs(shows_stored(periods, is_round, near), expected, (periods, is_round, near))
                    shown += expected and near != paper
            for near in (None, list(paper), paper[1:], paper + (None,)):
                self.assertIs(shows_stored(periods, is_round, near), False, (periods, is_round, near))
        self.assertGreater(shown, 20)

    def test_all_values_of_small_cases(self):
        chance = random.Random(106)
        for _ in range(12):
            periods = random_periods(chance, 2, 1, 2, span=4, rate=2, heat=6, gap=2)
            for is_round in (False, True):
                heating, _ = stored_by_degrees(periods, is_round)
                for value in itertools.product(all_edges(periods), repeat=len(periods)):
                    expected = heating > 0 and stored_lack(periods, is_round, value) == heating
                    self.assertIs(shows_stored(periods, is_round, value), expected, (periods, is_round, value))

    def test_of_equal_levels_the_closed_one_is_lower(self):
        given, taken = ((), ((50, 4),), 0), ((), ((50, -9), (40, -1)), 0)
        self.assertEqual(stored_outside((given, taken), False), (6, 0))
        self.assertIs(shows_stored((given, taken), False, (None, (40, False))), True)
        self.assertIs(shows_stored((given, taken), False, ((50, True), (40, False))), True)
        self.assertIs(shows_stored((given, taken), False, (None, (50, False))), False)
        # The heat of the first one counts from the level 50 itself on, as the second one's is closed.
        both = ((), ((50, -9), (50, 4)), 0)
        other = ((), ((50, -1),), 0)
        self.assertEqual(stored_outside((both, other), False), (6, 0))
        self.assertIs(shows_stored((both, other), False, ((50, False), (50, False))), True)
        self.assertIs(shows_stored((both, other), False, ((50, True), (50, False))), False)
        self.assertIs(shows_stored((both, other), False, ((50, False), (50, True))), False)
        self.assertEqual(stored_outside((other, both), False), (6, 0))
        self.assertIs(shows_stored((other, both), False, ((50, False), (50, False))), True)
        self.assertIs(shows_stored((other, both), True, ((50, False), (49, True))), True)
        self.assertIs(shows_stored((other, both), True, ((50, False), (50, True))), False)
        self.assertIs(shows_stored((other, both), True, ((50, True), (50, False))), False)

    def test_streams_at_open_levels(self):
        for level, is_open, expected in ((40, True, True), (40, False, True), (39, False, True), (41, True, False)):
            self.assertIs(shows_stored((COLD,), False, ((level, is_open),)), expected)

    def test_no_heating(self):
        self.assertIsNone(stored_paper((WARM, COLD), False))
        self.assertIs(shows_stored((WARM, COLD), False, None), True)
        self.assertIs(shows_stored((WARM, COLD), False, (None, None)), False)
        self.assertIs(shows_stored((WARM, COLD), False, ((1000, True), None)), False)
        self.assertIs(shows_stored((COLD, WARM), False, None), False)
        self.assertIs(shows_stored((COLD, WARM), True, None), True)


class TestGapCurve(unittest.TestCase):
    def test_gap_by_gap(self):
        chance = random.Random(107)
        for _ in range(40):
            streams, boxes, gap = oracles.random_problem(chance, 6, 4, gap=100)
            most = chance.randint(0, 12)
            expected = tuple(oracles.outside((streams, boxes, one))[0] for one in range(most + 1))
            self.assertEqual(gap_curve((streams, boxes, gap), most), expected, (streams, boxes))

    def test_whole_curve(self):
        problem = (((100, 50, 1), (50, 100, 1)), (), 77)
        found = gap_curve(problem, 100)
        self.assertEqual(found, tuple(range(51)) + (50,) * 50)
        self.assertEqual(found, tuple(least_outside((problem[0], (), gap))[0] for gap in range(101)))
        self.assertEqual(gap_curve(problem, 0), (0,))
        self.assertEqual(len(gap_curve(LARGEST, 100)), 101)


class TestFaults(Faults, unittest.TestCase):
    def test_periods(self):
        for value, error in period_faults():
            self.assert_fault(error, stored_outside, value, False)
            self.assert_fault(error, stored_outside, value, None)
            self.assert_fault(error, stored_paper, value, 1)
            self.assert_fault(error, shows_stored, value, "", None)

    def test_flags(self):
        for value in BAD_FLAGS:
            self.assert_fault(errors.BadFlag(), stored_outside, (WARM, COLD), value)
            self.assert_fault(errors.BadFlag(), stored_paper, (WARM, COLD), value)
            self.assert_fault(errors.BadFlag(), shows_stored, (WARM, COLD), value, None)

    def test_gap_curves(self):
        for value, error in problem_faults():
            self.assert_fault(error, gap_curve, value, 5)
            self.assert_fault(error, gap_curve, value, -1)
        for value in BAD_GAPS:
            self.assert_fault(errors.BadGap(), gap_curve, ((STREAM,), (BOX,), 10), value)
        for value in JUNK:
            if value not in (0, 1, 2, 5, 100) or isinstance(value, bool):
                self.assert_fault(errors.BadGap(), gap_curve, WARM, value)

    def test_last_arguments(self):
        self.assert_truths(shows_stored, (WARM, COLD), False, but=(None,))
        self.assert_truths(shows_stored, (COLD, WARM), False)
        self.assert_truths(shows_stored, ((((1, 2, 3),), (), 10),), False, but=(((0, False),),))
        self.assert_truths(shows_stored, (((), ((1, -3), (0, -4)), 10),) * 2, True, but=(((0, False), (0, False)),))
        taken = ((), ((0, -3),), 0)
        for value in [((0, False), (0, False)), ((-1, True), (0, False)), ((-10 ** 30, True), (0, False))]:
            self.assertIs(shows_stored((taken, taken), False, value), True, value)
        for value in [((0, 0), (0, False)), ((False, False), (0, False)), ((0, False), [0, False]), ((0, None), None),
                      [(0, False), (0, False)], ((0, False), (0, False), None), ((0, "False"), (0, False)), ((0, False), {}),
                      ((0, False, 0), (0, False)), (("0", False), (0, False)), ((None, False), (0, False))]:
            self.assertIs(shows_stored((taken, taken), False, value), False, value)


if __name__ == "__main__":
    unittest.main()
