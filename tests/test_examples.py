"""The examples of the document's interface, word for word."""

import unittest

from pinchworks import errors

EXAMPLES = r"""
>>> from pinchworks.cascades import cascade, given_above, heating_paper, least_outside, levels, pinches
>>> problem = (((180, 60, 2), (20, 100, 3)), ((100, -40),), 10)
>>> [levels(problem), given_above(problem, 60), least_outside(problem), cascade(problem), pinches(problem)]
[(170, 100, 50, 20), (220, 160), (40, 0), ((170, 40, 40), (100, 180, 140), (50, 90, 90), (20, 0, 0)), (20,)]

>>> from pinchworks.problemtext import read_problem, write_problem
>>> [write_problem((((180, 60, 2),), ((100, -40),), 10)), read_problem(' box 5 -3\n\ngap  0 ')]
['stream 180 60 2\nbox 100 -40\ngap 10', ((), ((5, -3),), 0)]

>>> from pinchworks.problemtext import read_problem
>>> read_problem('stream 20 20 3\ngap 0')
raises InvalidText(1, 3)

>>> from pinchworks.supplies import cheapest_supply
>>> problem = (((100, 50, 1), (20, 60, 1)), (), 10)
>>> cheapest_supply(problem, ((200, 5),), ((0, 1),))
(10, (0,), (10,))

>>> from pinchworks.barring import barred_outside, matches
>>> problem = (((180, 60, 2), (20, 100, 3)), ((100, -40), (150, 30)), 10)
>>> [barred_outside(problem, ((0, 1),)), matches((((100, 50, 1), (20, 60, 1)), (), 10), ())]
[(210, 200), ((0, 1, 40),)]

>>> from pinchworks.units import balanced_groups, fewest_matches, fewest_units, match_set
>>> problem = (((100, 50, 1), (20, 60, 1)), (), 10)
>>> [fewest_units((5, 3), (3, 5)), balanced_groups((5, 3), (3, 5)), fewest_matches(problem), match_set(problem)]
[2, (((0,), (1,)), ((1,), (0,))), 2, ((0, -1), (0, 1))]

>>> from pinchworks.networks import flaw, outside_of, temperatures
>>> problem = (((180, 60, 2), (20, 100, 3)), (), 10)
>>> [temperatures(problem, ((0, 1, 60),)), flaw(problem, ((0, 1, 240),)), flaw(problem, ((0, 1, 60),)), outside_of(problem, ((-1, 1, 7), (0, -1, 5)))]
[(((180, 1), (150, 1), (20, 1), (40, 1)),), None, ('goal', 0), (7, 5)]

>>> from pinchworks.rings import moved, ring_count, ringless
>>> problem = (((180, 60, 2), (20, 100, 3)), (), 10)
>>> network = ((0, 1, 100), (0, 1, 40))
>>> [ring_count(problem, network), moved(problem, network, (0, 1), 40), ringless(problem, network)]
[1, ((0, 1, 140),), ((0, 1, 140),)]

>>> from pinchworks.storing import gap_curve, stored_outside
>>> warm, cold = (((100, 50, 1),), (), 0), (((40, 90, 1),), (), 0)
>>> [stored_outside((warm, cold), False), stored_outside((cold, warm), False), stored_outside((cold, warm), True), gap_curve(warm, 2)]
[(0, 0), (50, 50), (0, 0), (0, 0, 0)]

>>> from pinchworks.curves import approach, curve
>>> problem = (((180, 60, 2), (20, 100, 3)), (), 10)
>>> [curve(problem, True), approach(problem, 0), curve((problem[0], ((50, 7),), 10), True)]
[((0, 60), (240, 180)), (40, 1), ((0, 50), (7, 50), (7, 60), (247, 180))]

>>> from pinchworks.paths import least_relief, path, relieved
>>> problem = (((180, 60, 2), (20, 100, 3)), (), 10)
>>> network = ((-1, 1, 20), (0, 1, 100), (0, -1, 20))
>>> [path(problem, network), relieved(problem, network, (0, 1, 2), 30), least_relief(problem, network, (0, 1, 2))]
[(0, 1, 2), ((-1, 1, 50), (0, 1, 70), (0, -1, 50)), 0]

>>> from pinchworks.pairs import level_block, level_pairs
>>> problem = (((180, 60, 2), (20, 100, 3)), (), 10)
>>> [level_pairs(problem, 60, True), level_pairs(problem, 60, False), level_block(problem, 60, False)]
[((0, 1),), None, (1,)]

>>> from pinchworks.spreads import worst_heating, worst_rates
>>> problem = (((180, 60, 2), (20, 100, 3)), (), 10)
>>> [worst_heating(problem, (1, 1)), worst_rates(problem, (1, 1))]
[200, (1, 4)]

>>> from pinchworks.water import least_fresh, water_plan
>>> [least_fresh((((50, 0),), ((80, 10),))), water_plan((((5, 7),), ((3, 0),)))]
[(30, 1), ((((0, 1),),), ((3, 1),))]

>>> from pinchworks.cleaning import cleaned_cost
>>> [cleaned_cost((((50, 500),), ((50, 10),)), 10, 3, 1), cleaned_cost((((50, 500),), ((50, 10),)), 10, 3, 5)]
[(50, 1), (147, 1)]

>>> from pinchworks.engines import best_place, engine_effect, placing, pump_effect
>>> problem = (((180, 60, 2), (20, 100, 3)), ((100, -40), (100, 30)), 10)
>>> engine = (300, 250, 50, 10)
>>> [engine_effect(problem, engine), pump_effect(problem, engine), placing(problem, engine), best_place(problem, -5, 0, 30)]
[(40, 30), (-10, 0), 'between', (0, 15)]

>>> from pinchworks.jobs import busiest, idle, minutes, with_store
>>> jobs = (((100, 50, 1), 0, 1), ((40, 90, 1), 1, 2))
>>> [minutes(jobs, 0), with_store(jobs, 0), busiest(jobs, 0), idle(jobs, 0)]
[((0, 50), (50, 0)), (0, 0), (1, 50), ()]

>>> from pinchworks.plant import Plant
>>> plant = Plant(10)
>>> first = [plant.put('b', (20, 100, 3)), plant.put('a', (180, 60, 2))]
>>> [first, plant.names(), plant.outside(), plant.saved(('a',)), plant.undo(), plant.outside()]
[[None, None], ('a', 'b'), (0, 0), 240, None, (240, 0)]

>>> from pinchworks.structures import best_loads, weak_corner
>>> problem = (((180, 60, 2), (20, 100, 3)), (), 10)
>>> [best_loads(problem, ((0, 1),)), best_loads(problem, ()), weak_corner(problem, ((0, 1),), (1, 0)), weak_corner(problem, ((0, 1), (0, -1)), (0, 0))]
[((0, 1), ((240, 1),)), None, (179, 20), None]

>>> from pinchworks.owners import heat_shares, shows_shares
>>> problem = (((180, 60, 2), (20, 100, 3)), ((100, -40),), 10)
>>> [heat_shares(problem, (0, 0, 0)), shows_shares(problem, (0, 1, 1), heat_shares(problem, (0, 1, 1)))]
[(40,), True]

>>> from pinchworks.sites import best_shifts, site_outside
>>> problem = (((180, 60, 2), (20, 100, 3)), ((100, -40),), 10)
>>> [best_shifts((problem[0], (), 10), ((120, 100, 10),), -5, 5), site_outside((problem,), ())]
[((-5,), 0), (40, 0)]

>>> from pinchworks.rests import best_match, free_gap, penalty, rest_after
>>> problem = (((180, 60, 2), (20, 100, 3)), (), 10)
>>> [rest_after(problem, 0, 1, 120), penalty(problem, 0, 1, 120), best_match(problem), free_gap(problem)]
[(((120, 60, 2), (20, 60, 3)), (), 10), 0, (0, 1, 240), 40]

>>> from pinchworks.changes import cut_at, mirrored, moved_by
>>> problem = (((180, 60, 2), (20, 100, 3)), ((100, -40),), 10)
>>> [cut_at(problem, 50), mirrored(((), ((100, -40),), 10)), moved_by(((), ((100, -40),), 10), -20)]
[((((180, 60, 2), (50, 100, 3)), ((100, -40),), 10), (((20, 50, 3),), (), 10)), ((), ((900, 40),), 10), ((), ((80, -40),), 10)]

>>> from pinchworks.crossings import crossing
>>> problem = (((180, 60, 2), (20, 100, 3)), (), 10)
>>> [crossing(problem, ((0, 1, 240),), 50), crossing(problem, ((-1, 1, 240), (0, -1, 240)), 50)]
[((90, 1), (0, 1), (0, 1)), ((0, 1), (90, 1), (240, 1))]

>>> from pinchworks.targets import most_at, most_from, unit_target
>>> problem = (((180, 60, 2), (20, 100, 3)), ((100, -40),), 10)
>>> [most_at(problem, 180), most_at(problem, 30), most_from(problem, 20), unit_target((problem[0], (), 10), 50)]
[40, 0, 0, (2, 1)]
"""


class TestExamples(unittest.TestCase):
    def test_all(self):
        for example in EXAMPLES.strip().split("\n\n"):
            *steps, expected = example.split("\n")
            names = {}
            for step in steps[:-1]:
                exec(step.removeprefix(">>> "), names)
            last = steps[-1].removeprefix(">>> ")
            with self.subTest(last):
                if expected.startswith("raises "):
                    self.check_error(last, names, eval(expected.removeprefix("raises "), vars(errors)))
                else:
                    self.assertEqual(repr(eval(last, names)), expected)

    def check_error(self, step, names, expected):
        with self.assertRaises(type(expected)) as caught:
            eval(step, names)
        self.assertEqual(vars(caught.exception), vars(expected))


if __name__ == "__main__":
    unittest.main()
