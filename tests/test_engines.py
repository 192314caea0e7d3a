"""pinchworks.engines: point 17."""

import random
import unittest

from pinchworks import errors
from pinchworks.cascades import least_outside
from pinchworks.engines import best_place, engine_effect, placing, pump_effect, with_boxes
from tests import oracles
from tests.faults import BAD_BOXES, BOX, JUNK, STREAM, Faults, engine_faults, problem_faults

PROBLEM = (((180, 60, 2), (20, 100, 3)), ((100, -40), (100, 30)), 10)
ENGINE = (300, 250, 50, 10)
OF_ENGINES = (engine_effect, pump_effect, placing)
FULL = (((180, 60, 2),), (BOX,) * 4, 10)
LARGEST = (((1000, 0, 100),) * 3 + ((0, 1000, 100),) * 3, ((1000, 10000), (0, -10000)), 100)


def random_engine(chance, span, heat):
    bottom, top = sorted(chance.sample(range(span + 1), 2))
    work, whole = sorted(chance.sample(range(1, heat + 1), 2))
    return (top, bottom, whole, work)


def cases(seed, many):
    """Return pairs (problem, engine), the problems with at most two boxes."""
    chance = random.Random(seed)
    rows = []
    for _ in range(many):
        rows.append((oracles.random_problem(chance, 6, 2), random_engine(chance, 230, 300)))
        rows.append((oracles.random_problem(chance, 3, 2, span=9, rate=3, heat=9, gap=3), random_engine(chance, 12, 9)))
        rows.append((oracles.random_problem(chance, 3, 0), random_engine(chance, 300, 900)))
    return rows


def more(problem, boxes):
    """Return what the heating and the cooling become more by boxes, degree by degree."""
    streams, own, gap = problem
    after, before = oracles.outside((streams, own + boxes, gap)), oracles.outside(problem)
    return (after[0] - before[0], after[1] - before[1])


class TestBoxes(unittest.TestCase):
    def test_boxes(self):
        problem = (((180, 60, 2),), ((100, -40),), 10)
        self.assertEqual(with_boxes(problem, ()), problem)
        self.assertEqual(with_boxes(problem, ((5, 7),)), (((180, 60, 2),), ((100, -40), (5, 7)), 10))
        self.assertEqual(with_boxes(problem, ((5, 7), (100, -40), (0, -1)))[1], ((100, -40), (5, 7), (100, -40), (0, -1)))
        self.assertEqual(with_boxes((((180, 60, 2),), (), 10), (BOX,) * 4), FULL)
        self.assertEqual(with_boxes(FULL, ()), FULL)


class TestEffects(unittest.TestCase):
    def test_by_degrees(self):
        kinds = {}
        for problem, engine in cases(171, 80):
            top, bottom, heat, work = engine
            effect = more(problem, ((top, -heat), (bottom, heat - work)))
            self.assertEqual(engine_effect(problem, engine), effect, (problem, engine))
            self.assertEqual(effect[0] - effect[1], work)
            turned = more(problem, ((bottom, -(heat - work)), (top, heat)))
            self.assertEqual(pump_effect(problem, engine), turned, (problem, engine))
            self.assertEqual(turned[1] - turned[0], work)
            name = "free" if effect[0] < work else "even" if effect[0] == work else "across"
            name = "between" if work < effect[0] < heat else name
            self.assertEqual(placing(problem, engine), name, (problem, engine))
            kinds[name] = kinds.get(name, 0) + 1
        self.assertEqual(sorted(kinds), ["across", "between", "even", "free"])
        self.assertGreater(min(kinds.values()), 5, kinds)

    def test_names(self):
        # Heat is lacking above the level 100 and left over below it.
        problem = (((200, 110, 1), (100, 200, 2), (110, 20, 3), (30, 100, 1)), (), 10)
        self.assertEqual(least_outside(problem), (110, 200))
        for engine, name, effect in (
            ((300, 250, 50, 10), "even", (10, 0)),
            ((300, 150, 50, 10), "even", (10, 0)),
            ((300, 149, 50, 10), "between", (11, 1)),
            ((300, 111, 50, 10), "between", (49, 39)),
            ((300, 110, 50, 10), "across", (50, 40)),
            ((101, 50, 50, 10), "across", (50, 40)),
            ((100, 50, 50, 10), "across", (50, 40)),
            ((99, 50, 50, 10), "between", (48, 38)),
            ((80, 50, 50, 10), "even", (10, 0)),
            ((79, 50, 50, 10), "free", (8, -2)),
            ((75, 50, 50, 10), "free", (0, -10)),
            ((60, 50, 50, 10), "free", (0, -10)),
            ((300, 150, 150, 30), "between", (110, 80)),
        ):
            self.assertEqual(placing(problem, engine), name, engine)
            self.assertEqual(engine_effect(problem, engine), effect, engine)

    def test_pumps(self):
        problem = (((200, 110, 1), (100, 200, 2), (110, 20, 3), (30, 100, 1)), (), 10)
        # Across the pinch a pump brings what it gives off; on one side of it alone, at most its work.
        for engine, effect in (
            ((210, 80, 50, 10), (-50, -40)),
            ((210, 81, 50, 10), (-48, -38)),
            ((210, 100, 50, 10), (-10, 0)),
            ((210, 101, 50, 10), (-10, 0)),
            ((111, 50, 50, 10), (-1, 9)),
            ((110, 50, 50, 10), (0, 10)),
        ):
            self.assertEqual(pump_effect(problem, engine), effect, engine)

    def test_heating_more_by_less_than_the_work(self):
        # Of the 44 that the engine takes in, 40 are left over in any case.
        problem = ((), ((100, 40), (20, -1)), 0)
        self.assertEqual(engine_effect(problem, (100, 50, 44, 20)), (4, -16))
        self.assertEqual(placing(problem, (100, 50, 44, 20)), "free")
        self.assertEqual(engine_effect(problem, (100, 50, 40, 20)), (0, -20))
        self.assertEqual(placing(problem, (100, 50, 40, 20)), "free")
        self.assertEqual(placing(problem, (100, 50, 59, 20)), "free")
        self.assertEqual(placing(problem, (100, 50, 60, 20)), "even")
        self.assertEqual(placing(problem, (100, 50, 61, 20)), "between")

    def test_without_givers_or_takers(self):
        givers, takers = (((180, 60, 2),), ((50, 7),), 10), (((60, 180, 2),), ((50, -7),), 10)
        self.assertEqual(engine_effect(givers, (170, 160, 5, 1)), (5, 4))
        self.assertEqual(engine_effect(givers, (100, 60, 5, 1)), (0, -1))
        self.assertEqual(engine_effect(takers, (300, 190, 5, 1)), (1, 0))
        self.assertEqual(pump_effect(takers, (300, 190, 5, 1)), (-1, 0))
        self.assertEqual([placing(givers, (180, 160, 5, 1)), placing(takers, (300, 190, 5, 1))], ["across", "even"])

    def test_largest(self):
        for engine in ((1000, 0, 10000, 1), (1000, 0, 10000, 9999), (1, 0, 2, 1), (1000, 999, 2, 1)):
            top, bottom, heat, work = engine
            self.assertEqual(engine_effect(LARGEST, engine), more(LARGEST, ((top, -heat), (bottom, heat - work))))
            self.assertEqual(pump_effect(LARGEST, engine), more(LARGEST, ((bottom, work - heat), (top, heat))))


class TestBestPlace(unittest.TestCase):
    def check(self, problem, heat, low, high):
        streams, boxes, gap = problem
        heatings = {}
        for degrees in range(low, high + 1):
            heatings[degrees] = least_outside((streams, boxes + ((degrees, heat),), gap))[0]
        least = min(heatings.values())
        place = min(degrees for degrees, heating in heatings.items() if heating == least)
        self.assertEqual(best_place(problem, heat, low, high), (place, least), (problem, heat, low, high))
        return place

    def test_by_trying_all_temperatures(self):
        chance = random.Random(172)
        inside = 0
        for _ in range(60):
            problem = oracles.random_problem(chance, 6, 3)
            low, high = sorted((chance.randint(0, 230), chance.randint(0, 230)))
            for heat in (chance.randint(1, 400), -chance.randint(1, 400), chance.choice((-10000, -1, 1, 10000))):
                inside += low < self.check(problem, heat, low, high) < high
        for _ in range(60):
            problem = oracles.random_problem(chance, 3, 3, span=9, rate=3, heat=9, gap=3)
            low, high = sorted((chance.randint(0, 12), chance.randint(0, 12)))
            for heat in (chance.randint(1, 12), -chance.randint(1, 12)):
                inside += low < self.check(problem, heat, low, high) < high
        self.assertGreater(inside, 20)

    def test_by_degrees(self):
        chance = random.Random(173)
        for _ in range(20):
            streams, boxes, gap = oracles.random_problem(chance, 4, 3)
            degrees, heating = best_place((streams, boxes, gap), 50, 0, 230)
            self.assertEqual(oracles.outside((streams, boxes + ((degrees, 50),), gap))[0], heating)

    def test_all_alike(self):
        problem = (((50, 20, 1),), (), 10)
        self.assertEqual(best_place(problem, 7, 0, 1000), (0, 0))
        self.assertEqual(best_place(problem, -7, 41, 1000), (41, 7))
        self.assertEqual(best_place(problem, -7, 33, 1000), (33, 0))
        self.assertEqual(best_place(problem, -7, 34, 1000), (34, 1))

    def test_one_temperature(self):
        for degrees in (0, 110, 1000):
            for heat in (-10000, -1, 1, 10000):
                self.check(PROBLEM, heat, degrees, degrees)

    def test_all_temperatures(self):
        for problem in (PROBLEM, LARGEST):
            for heat in (-10000, -17, 17, 10000):
                self.check(problem, heat, 0, 1000)


class TestFaults(Faults, unittest.TestCase):
    def test_problems(self):
        for value, error in problem_faults():
            self.assert_fault(error, with_boxes, value, ())
            self.assert_fault(error, with_boxes, value, None)
            for function in OF_ENGINES:
                self.assert_fault(error, function, value, ENGINE)
                self.assert_fault(error, function, value, None)
            self.assert_fault(error, best_place, value, 5, 0, 30)
            self.assert_fault(error, best_place, value, None, None, None)

    def test_boxes(self):
        for value in JUNK:
            if value not in ((), ((1, 2),), ((0, 1),)) or not isinstance(value, tuple):
                is_row = isinstance(value, tuple) and len(value) <= 4
                self.assert_fault(errors.BadBoxes(0 if is_row else None), with_boxes, PROBLEM, value)
        for value in [None, True, 5, "", "ab", [], [BOX], {}, {100: -40}, (BOX,) * 5, (None,) * 5]:
            self.assert_fault(errors.BadBoxes(None), with_boxes, PROBLEM, value)
            self.assert_fault(errors.BadBoxes(None), with_boxes, FULL, value)
        for value in BAD_BOXES:
            self.assert_fault(errors.BadBoxes(0), with_boxes, PROBLEM, (value,))
            self.assert_fault(errors.BadBoxes(2), with_boxes, FULL, (BOX, BOX, value, value))
        self.assert_fault(errors.BadBoxes(0), with_boxes, PROBLEM, BOX)

    def test_engines(self):
        for value in engine_faults():
            for function in OF_ENGINES:
                self.assert_fault(errors.BadEngine(), function, PROBLEM, value)
                self.assert_fault(errors.BadEngine(), function, FULL, value)

    def test_limits_of_engines(self):
        for engine in ((1000, 0, 10000, 1), (1000, 0, 10000, 9999), (1, 0, 2, 1)):
            for function in OF_ENGINES:
                self.assertIsNotNone(function(PROBLEM, engine))
        for engine in ((1001, 0, 9, 1), (1000, -1, 9, 1), (1000, 0, 10001, 1), (1000, 0, 10000, 10000), (0, 0, 2, 1)):
            for function in OF_ENGINES:
                self.assert_fault(errors.BadEngine(), function, PROBLEM, engine)

    def test_too_many(self):
        streams, _, gap = PROBLEM
        for many, own in ((1, 4), (2, 3), (4, 1), (4, 4)):
            self.assert_fault(errors.TooMany(4), with_boxes, (streams, (BOX,) * own, gap), (BOX,) * many)
        for own in (3, 4):
            for function in OF_ENGINES:
                self.assert_fault(errors.TooMany(4), function, (streams, (BOX,) * own, gap), ENGINE)
        self.assertEqual(best_place((streams, (BOX,) * 3, gap), 5, 0, 0)[0], 0)
        self.assert_fault(errors.TooMany(4), best_place, FULL, 5, 0, 30)
        self.assert_fault(errors.TooMany(4), best_place, FULL, -5, 3, 3)
        self.assert_fault(errors.BadLoad(), best_place, FULL, 0, 0, 30)
        self.assert_fault(errors.BadLevel(), best_place, FULL, 5, 31, 30)

    def test_loads(self):
        for value in JUNK + [0, 10001, -10001]:
            if not isinstance(value, int) or isinstance(value, bool) or value in (0, 10001, -10001) or abs(value) > 10000:
                self.assert_fault(errors.BadLoad(), best_place, PROBLEM, value, 0, 30)
                self.assert_fault(errors.BadLoad(), best_place, PROBLEM, value, None, -1)
        for value in (1, -1, 10000, -10000):
            self.assertEqual(len(best_place(PROBLEM, value, 0, 1000)), 2)

    def test_levels(self):
        for value in JUNK + [-1, 1001]:
            if not isinstance(value, int) or isinstance(value, bool) or not 0 <= value <= 1000:
                self.assert_fault(errors.BadLevel(), best_place, PROBLEM, 5, value, 1000)
                self.assert_fault(errors.BadLevel(), best_place, PROBLEM, 5, 0, value)
                self.assert_fault(errors.BadLevel(), best_place, PROBLEM, 5, value, value)
        self.assert_fault(errors.BadLevel(), best_place, PROBLEM, 5, 31, 30)
        self.assert_fault(errors.BadLevel(), best_place, (((STREAM),), (), 10), -5, 1000, 0)


if __name__ == "__main__":
    unittest.main()
