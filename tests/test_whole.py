"""Point 1 over the whole program, and what holds over several modules."""

import importlib
import itertools
import random
import re
import unittest

from pinchworks import errors
from pinchworks.cascades import least_outside, pinches
from pinchworks.changes import cut_at, joined, mirrored, moved_by
from pinchworks.crossings import crossing
from pinchworks.engines import best_place, engine_effect, placing, pump_effect, with_boxes
from pinchworks.networks import flaw, outside_of
from pinchworks.owners import heat_shares
from pinchworks.plant import Plant
from pinchworks.rests import best_match, penalty, rest_after
from pinchworks.sites import best_shifts, site_outside
from pinchworks.storing import stored_outside
from pinchworks.structures import best_loads
from pinchworks.targets import most_at, most_from, unit_target
from pinchworks.units import fewest_matches, match_set
from tests import oracles
from tests.faults import BOX, JUNK, STREAM, Faults
from tests.test_interface import INTERFACE

# A problem with boxes and one without, each with a hot and a cold stream.
WITH = (((180, 60, 2), (20, 100, 3)), ((100, -40),), 10)
WITHOUT = (((180, 60, 2), (20, 100, 3)), (), 10)
RINGED = ((-1, 1, 20), (0, 1, 100), (0, 1, 40), (0, -1, 20))
JOBS = (((100, 50, 1), 0, 1), ((40, 90, 1), 1, 2))
WATER = (((50, 20),), ((80, 10),))

PROBLEM_FAULTS = [
    (None, errors.BadProblem()), ([], errors.BadProblem()), (((), (), 10), errors.BadProblem()), ((1, 2), errors.BadProblem()),
    ((None, None, None), errors.BadStreams(None)), (((STREAM, None), None, None), errors.BadStreams(1)),
    (((STREAM,), {}, None), errors.BadBoxes(None)), (((STREAM,), (BOX, BOX, []), None), errors.BadBoxes(2)),
    (((), (BOX,), True), errors.BadGap()), (((), (), 101), errors.BadGap()),
]
BOXLESS_FAULTS = PROBLEM_FAULTS + [(WITH, errors.HasBoxes()), (((), (BOX,), 10), errors.HasBoxes())]
NO_INTEGERS = (None, True, False, "1", (), (1,), [1], {1: 1})


def alike(error, *values):
    return [(value, error) for value in values]


def indexed(error, good, bad):
    """Return faults of a tuple of things of which one is good and one bad."""
    return [(None, error(None)), ([good], error(None)), ((bad,), error(0)), ((good, bad), error(1))]


# For each kind of argument a good value, None where it depends on the function, and some faults.
KINDS = {
    "problem": (WITH, PROBLEM_FAULTS),
    "boxless": (WITHOUT, BOXLESS_FAULTS),
    "level": (50, alike(errors.BadLevel(), *NO_INTEGERS)),
    "temperature": (50, alike(errors.BadLevel(), -1, 1001, *NO_INTEGERS)),
    "shift": (3, alike(errors.BadLevel(), -51, 51, *NO_INTEGERS)),
    "flag": (True, alike(errors.BadFlag(), None, 0, 1, "True", (), [])),
    "gap": (10, alike(errors.BadGap(), -1, 101, *NO_INTEGERS)),
    "text": ("stream 1 2 3\ngap 3", alike(errors.NotText(), None, True, 5, (), ["gap 3"], {})),
    "supplies": (((200, 5),), indexed(errors.BadSupplies, (200, 5), (200, True)) + [((), errors.BadSupplies(None))]),
    "barred": ((), indexed(errors.BadBarred, (0, 1), (1, 0))),
    "loads": ((5, 3), alike(errors.BadLoads(), None, (), [5, 3], (5, True), (0, 8), "53")),
    "network": (RINGED, indexed(errors.BadNetwork, (0, 1, 60), (1, 0, 60))),
    "ring": ((1, 2), alike(errors.BadRing(), None, (1,), [1, 2], (True, 2), (0, 3))),
    "path": ((0, 1, 3), alike(errors.BadPath(), None, (0, 3), [0, 1, 3], (False, 1, 3), (3, 1, 0))),
    "moved load": (20, alike(errors.BadLoad(), 0, 41, *NO_INTEGERS)),
    "path load": (20, alike(errors.BadLoad(), -1, 100, *NO_INTEGERS)),
    "match load": (120, alike(errors.BadLoad(), 0, 7, 246, *NO_INTEGERS)),
    "box heat": (-5, alike(errors.BadLoad(), 0, 10001, *NO_INTEGERS)),
    "periods": ((WITHOUT, WITH), indexed(errors.BadPeriods, WITH, WITH[:2]) + [((WITH, (*WITH[:2], 9)), errors.BadPeriods(1))]),
    "heating": (40, alike(errors.BadHeating(), -1, 39, *NO_INTEGERS)),
    "spreads": ((1, 1), alike(errors.BadSpreads(), None, (1,), [1, 1], (1, True), (2, 1))),
    "water": (WATER, [(None, errors.BadWater(None)), (list(WATER), errors.BadWater(None)), ((((0, 1),), ((1, 1),)), errors.BadWater(0)),
                      ((((1, 1),), ((1, True),)), errors.BadWater(1))]),
    "dirt": (10, alike(errors.BadDirt(), -1, 1001, *NO_INTEGERS)),
    "price": (10, alike(errors.BadPrice(), -1, 1001, *NO_INTEGERS)),
    "prices": (((3, 4),), alike(errors.BadPrices(), None, (), [(3, 4)], ((3,),), ((3, True),), ((3, 101),))),
    "boxes": (((5, 7),), indexed(errors.BadBoxes, (5, 7), (5, 0))),
    "engine": ((300, 250, 50, 10), alike(errors.BadEngine(), None, (300, 250, 50), [300, 250, 50, 10], (300, 250, 50, True))),
    "jobs": (JOBS, indexed(errors.BadJobs, JOBS[0], (*JOBS[0][:2], 51)) + [((), errors.BadJobs(None))]),
    "structure": (((-1, 1), (0, 1), (0, -1)), indexed(errors.BadStructure, (0, 1), (1, 0))),
    "swings": ((1, 2), alike(errors.BadSwings(), None, (1,), [1, 2], (1, True), (51, 0), (0, 80))),
    "owners": ((0, 1, 2), alike(errors.BadOwners(), None, (0, 1), [0, 1, 2], (0, 1, True), (0, 1, 4))),
    "columns": (((120, 100, 10),), indexed(errors.BadColumns, (120, 100, 10), (100, 120, 10)) + [((), errors.BadColumns(None))]),
    "mains": ((20, 60), alike(errors.BadMains(), None, (60, 20), [20, 60], (20, True), (1001,), (1, 2, 3, 4, 5, 6))),
    "hot": (0, alike(errors.BadMatch(), 1, 2, -1, *NO_INTEGERS)),
    "cold": (1, alike(errors.BadMatch(), 0, 2, -1, *NO_INTEGERS)),
    "other": (WITHOUT, PROBLEM_FAULTS + [((*WITH[:2], 9), errors.OtherGap())]),
    "value": (None, []),
}

# The kinds of the arguments of all functions of the interface.
FUNCTIONS = {
    "cascades": """
        levels problem; pinches problem; given_above problem, level; least_outside problem; cascade problem;
        heating_paper problem; shows_heating problem, value
    """,
    "problemtext": "write_problem problem; read_problem text",
    "supplies": """
        cheapest_supply problem, supplies, supplies; worth_paper problem, supplies, supplies;
        shows_worth problem, supplies, supplies, value
    """,
    "barring": """
        barred_outside problem, barred; barred_paper problem, barred; shows_barred problem, barred, value;
        shows_passing problem, barred, value; passing problem, barred; matches problem, barred
    """,
    "units": """
        fewest_units loads, loads; fewest_matches problem; unit_table loads, loads; balanced_groups loads, loads;
        shows_groups loads, loads, value; match_set problem
    """,
    "networks": "temperatures boxless, network; flaw boxless, network; outside_of boxless, network",
    "rings": """
        ring_count boxless, network; ring boxless, network; shows_ring boxless, network, value;
        moved boxless, network, ring, moved load; ringless boxless, network
    """,
    "storing": """
        stored_outside periods, flag; stored_paper periods, flag; shows_stored periods, flag, value; gap_curve problem, gap
    """,
    "curves": "curve problem, flag; approach problem, heating",
    "paths": """
        path boxless, network; shows_path boxless, network, value; relieved boxless, network, path, path load;
        least_relief boxless, network, path
    """,
    "pairs": """
        level_pairs boxless, level, flag; level_block boxless, level, flag; shows_pairs boxless, level, flag, value;
        shows_block boxless, level, flag, value
    """,
    "spreads": "worst_heating problem, spreads; worst_rates problem, spreads; shows_rates problem, spreads, value",
    "water": "least_fresh water; water_plan water; water_paper water; shows_plan water, value; shows_water water, value",
    "cleaning": """
        cleaned_cost water, dirt, price, price; cleaned_plan water, dirt, price, price;
        cleaning_paper water, dirt, price, price
    """,
    "engines": """
        with_boxes problem, boxes; engine_effect problem, engine; pump_effect problem, engine; placing problem, engine;
        best_place problem, box heat, temperature, temperature
    """,
    "cheapest": "cheapest_passing problem, prices; shows_cheapest problem, prices, value",
    "jobs": "minutes jobs, gap; busiest jobs, gap; with_store jobs, gap; idle jobs, gap",
    "structures": """
        best_loads boxless, structure; load_paper boxless, structure; shows_loads boxless, structure, value;
        shows_paper boxless, structure, value; weak_corner boxless, structure, swings
    """,
    "owners": "heat_shares problem, owners; shows_shares problem, owners, value",
    "sites": "best_shifts problem, columns, shift, shift; site_outside periods, mains",
    "rests": """
        rest_after boxless, hot, cold, match load; penalty boxless, hot, cold, match load; free_gap problem;
        best_match boxless
    """,
    "changes": "mirrored problem; moved_by problem, level; joined problem, other; cut_at problem, level",
    "crossings": "crossing boxless, network, level",
    "targets": "most_at problem, temperature; most_from problem, temperature; unit_target boxless, level",
}


def all_functions():
    """Return triples (name, function, kinds of its arguments)."""
    found = []
    for module, listed in FUNCTIONS.items():
        names = vars(importlib.import_module(f"pinchworks.{module}"))
        for entry in listed.split(";"):
            name, kinds = entry.strip().split(" ", 1)
            found.append((name, names[name], [kind.strip() for kind in kinds.split(",")]))
    return found


def kinds_of_values(value):
    if isinstance(value, (tuple, list)):
        return {type(value)}.union(*[kinds_of_values(part) for part in value])
    return {type(value)}


class TestArguments(Faults, unittest.TestCase):
    def test_all_functions_are_here(self):
        for module, listed in INTERFACE.items():
            names = re.findall(r"(\w+)\(([^)]*)\)", listed)
            if module != "plant":
                here = [entry.strip().split(" ", 1)[0] for entry in FUNCTIONS[module].split(";")]
                self.assertEqual(sorted(name for name, _ in names), sorted(here), module)
        for name, function, kinds in all_functions():
            self.assertEqual(function.__code__.co_argcount, len(kinds), name)

    def test_good_arguments(self):
        for name, function, kinds in all_functions():
            good = [KINDS[kind][0] for kind in kinds]
            before = repr(good)
            value = function(*good)
            self.assertEqual(function(*good), value, name)
            self.assertEqual(repr(good), before, name)
            self.assertLessEqual(kinds_of_values(value), {tuple, int, bool, str, type(None)}, name)

    def test_one_bad_argument(self):
        for name, function, kinds in all_functions():
            good = [KINDS[kind][0] for kind in kinds]
            for at, kind in enumerate(kinds):
                for value, error in KINDS[kind][1]:
                    with self.subTest(f"{name} {at} {value!r}"):
                        self.assert_fault(error, function, *good[:at], value, *good[at + 1:])

    def test_two_bad_arguments(self):
        for name, function, kinds in all_functions():
            good = [KINDS[kind][0] for kind in kinds]
            for at, later in itertools.combinations(range(len(kinds)), 2):
                for (value, error), (other, _) in itertools.product(KINDS[kinds[at]][1], KINDS[kinds[later]][1]):
                    row = list(good)
                    row[at], row[later] = value, other
                    self.assert_fault(error, function, *row)

    def test_junk_in_all_places(self):
        for name, function, kinds in all_functions():
            for value in JUNK:
                if kinds[0] == "value" or self.is_good(function, kinds, value):
                    continue
                # The first argument is bad, so that its error is raised whatever stands behind it.
                for other in (value, None, [], 10 ** 30):
                    row = [value] + [other] * (len(kinds) - 1)
                    with self.assertRaises(errors.HeatError, msg=(name, value)) as caught:
                        function(*row)
                    first = [type(error) for _, error in KINDS[kinds[0]][1]]
                    self.assertIn(type(caught.exception), first + [errors.InvalidText], (name, value))

    def is_good(self, function, kinds, value):
        """Return whether junk is a good first argument by chance."""
        return kinds[0] == "loads" and isinstance(value, tuple) and value != () and all(
            type(load) is int and 1 <= load for load in value
        ) and len(value) <= 5

    def test_last_arguments_of_shows(self):
        deep = ()
        for _ in range(50):
            deep = (deep, [deep], {0: deep}) if len(repr(deep)) < 5000 else (deep,)
        values = JUNK + [deep, 10 ** 5000, -10 ** 5000, (10 ** 5000,) * 3, "a" * 10 ** 5, ((0, 1),) * 1000, (((0, 1),),) * 20]
        for name, function, kinds in all_functions():
            if not name.startswith("shows"):
                continue
            self.assertEqual(kinds[-1], "value")
            good = [KINDS[kind][0] for kind in kinds[:-1]]
            for value in values:
                self.assertIs(type(function(*good, value)), bool, (name, type(value)))
            for value in values[:20]:
                for at, kind in enumerate(kinds[:-1]):
                    for bad, error in KINDS[kind][1]:
                        self.assert_fault(error, function, *good[:at], bad, *good[at + 1:], value)

    def test_large_integers(self):
        # Python itself refuses to write such numbers out.
        for name, function, kinds in all_functions():
            good = [KINDS[kind][0] for kind in kinds]
            for at, kind in enumerate(kinds):
                if kind == "value" or (kind == "level" and name != "moved_by") or kind == "heating":
                    continue
                for value in (10 ** 5000, (10 ** 5000,), (10 ** 5000,) * 3, ((10 ** 5000,) * 2,)):
                    if kind == "level" and value != 10 ** 5000:
                        continue
                    with self.assertRaises(errors.HeatError, msg=(name, at)):
                        function(*good[:at], value, *good[at + 1:])


class TestTooMany(Faults, unittest.TestCase):
    def check(self, most, function, arguments, kinds):
        """Check that a call has too many things, and that any other error of its arguments is told ahead of that."""
        self.assert_fault(errors.TooMany(most), function, *arguments)
        for at, kind in enumerate(kinds):
            for value, error in KINDS[kind][1]:
                self.assert_fault(error, function, *arguments[:at], value, *arguments[at + 1:])

    def test_all(self):
        full = ((STREAM,) * 2, (BOX,) * 4, 10)
        self.check(4, with_boxes, (full, ((5, 7),)), ["problem", "boxes"])
        for function in (engine_effect, pump_effect, placing):
            self.check(4, function, (full, (300, 250, 50, 10)), ["problem", "engine"])
        self.check(4, best_place, (full, 5, 0, 30), ["problem", "box heat", "temperature", "temperature"])
        self.check(4, best_shifts, (full, ((120, 100, 10),), 0, 5), ["problem", "columns", "shift", "shift"])
        self.check(5, unit_target, (((STREAM,) * 6, (), 10), 50), ["boxless", "level"])
        self.check(6, joined, (((STREAM,) * 6, (), 10), ((STREAM,), (), 10)), ["problem", "other"])
        self.check(4, joined, (((), (BOX,) * 4, 10), ((), (BOX,), 10)), ["problem", "other"])
        self.check(6, joined, (((STREAM,) * 6, (BOX,) * 4, 10), ((STREAM,), (BOX,), 10)), ["problem", "other"])
        many = (((180, 60, 2),) * 3 + ((20, 100, 3),) * 3, ((150, 30),), 10)
        for function in (fewest_matches, match_set):
            self.check(9, function, (many,), ["problem"])
            self.assert_fault(errors.BadGap(), function, (*many[:2], True))
        plant = Plant(10)
        for name in "abcdef":
            plant.put(name, STREAM)
        self.assert_fault(errors.TooMany(6), plant.put, "g", STREAM)
        self.assert_fault(errors.BadName(), plant.put, "G", STREAM)
        self.assert_fault(errors.BadStreams(None), plant.put, "g", (1, 1, 1))
        self.assert_fault(errors.BadName(), plant.put, "G", (1, 1, 1))


class TestOverSeveralModules(unittest.TestCase):
    def test_mirrored_moved_joined(self):
        chance = random.Random(301)
        for _ in range(60):
            one = oracles.random_problem(chance, 3, 2)
            other = oracles.random_problem(chance, 3, 2)[:2] + (one[2],)
            both = joined(one, other)
            heating, cooling = least_outside(both)
            self.assertEqual(least_outside(mirrored(both)), (cooling, heating))
            self.assertEqual(least_outside(moved_by(both, 300)), (heating, cooling))
            self.assertEqual(mirrored(joined(one, other)), joined(mirrored(one), mirrored(other)))
            self.assertEqual(moved_by(mirrored(both), -300), mirrored(moved_by(both, 300)))
            apart = stored_outside((one,), False)[0] + stored_outside((other,), False)[0]
            self.assertLessEqual(heating, apart)
            # Between the two plants a main or a later period does no more than one problem for all.
            self.assertLessEqual(heating, site_outside((one, other), (20, 60, 100))[0])
            self.assertLessEqual(heating, stored_outside((one, other), False)[0])
            self.assertEqual(heating, stored_outside((one, other), True)[0])
            owners = (0,) * len(one[0]) + (1,) * len(other[0]) + (0,) * len(one[1]) + (1,) * len(other[1])
            shares = heat_shares(both, owners) + (0,)
            self.assertLessEqual(shares[0], least_outside(one)[0])
            self.assertLessEqual(shares[1], least_outside(other)[0])

    def test_plants_and_joined_problems(self):
        chance = random.Random(302)
        for _ in range(40):
            streams, _, gap = oracles.random_problem(chance, 6, 0)
            plant = Plant(gap)
            for name, stream in zip("abcdef", streams):
                plant.put(name, stream)
            many = chance.randint(1, len(streams))
            if many < len(streams):
                one, other = (streams[:many], (), gap), (streams[many:], (), gap)
                saved = least_outside(one)[0] + least_outside(other)[0] - least_outside(joined(one, other))[0]
                self.assertEqual(plant.saved(tuple("abcdef"[:many])), saved)

    def test_sound_networks(self):
        chance = random.Random(303)
        sound = 0
        for _ in range(200):
            problem = oracles.random_problem(chance, 4, 0)
            hots = [number for number, (start, goal, _) in enumerate(problem[0]) if start > goal]
            colds = [number for number in range(len(problem[0])) if number not in hots]
            structure = [(-1, cold) for cold in colds] + [(hot, -1) for hot in hots]
            structure[len(colds):len(colds)] = [(chance.choice(hots), chance.choice(colds)) for _ in range(3) if hots and colds]
            best = best_loads(problem, tuple(structure))
            if best is None or any(load[1] > 1 for load in best[1]):
                continue
            network = tuple((hot, cold, load[0]) for (hot, cold), load in zip(structure, best[1]) if load[0])
            self.assertIsNone(flaw(problem, network))
            brought, carried = outside_of(problem, network)
            heating, cooling = least_outside(problem)
            self.assertEqual((brought, 1), best[0])
            self.assertGreaterEqual(brought, heating)
            self.assertEqual(brought - heating, carried - cooling)
            for pinch in pinches(problem):
                parts = crossing(problem, network, pinch)
                self.assertEqual(sum(top for top, _ in parts), brought - heating)
                self.assertGreaterEqual(min(top for top, _ in parts), 0)
            sound += 1
        self.assertGreater(sound, 80)

    def test_cut_problems_and_targets(self):
        chance = random.Random(304)
        for _ in range(60):
            problem = oracles.random_problem(chance, 5, 0)
            heating, cooling = least_outside(problem)
            level = chance.randint(0, 150)
            above, below = cut_at(problem, level)
            # What is lacking above the level has to come from outside; the rest can come at the level itself.
            lacking = 0 if above is None else least_outside(above)[0]
            if level + problem[2] <= 1000:
                self.assertEqual(most_at(problem, level + problem[2]), heating - lacking)
            # What is left over below the level can be carried off there alone.
            left = 0 if below is None else least_outside(below)[1]
            self.assertEqual(most_from(problem, level), cooling - left)

    def test_best_matches_and_rests(self):
        chance = random.Random(305)
        for _ in range(40):
            problem = oracles.random_problem(chance, 5, 0, rate=3)
            rest, heating = problem, least_outside(problem)[0]
            # Match after match that costs nothing, until none is left: they need no more than the least heating.
            found = best_match(rest)
            while found is not None:
                self.assertEqual(penalty(rest, *found), 0)
                rest = rest_after(rest, *found)
                self.assertEqual(least_outside(rest)[0] if rest else 0, heating)
                found = best_match(rest) if rest else None


if __name__ == "__main__":
    unittest.main()
