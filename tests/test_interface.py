"""Each function of the interface stands in the module under which the document lists it, with these arguments."""

import importlib
import inspect
import re
import unittest

INTERFACE = {
    "cascades": """
        levels(problem) pinches(problem) given_above(problem, level) least_outside(problem) cascade(problem)
        heating_paper(problem) shows_heating(problem, value)
    """,
    "problemtext": "write_problem(problem) read_problem(text)",
    "supplies": """
        cheapest_supply(problem, hots, colds) worth_paper(problem, hots, colds) shows_worth(problem, hots, colds, value)
    """,
    "barring": """
        barred_outside(problem, barred) barred_paper(problem, barred) shows_barred(problem, barred, value)
        shows_passing(problem, barred, value) passing(problem, barred) matches(problem, barred)
    """,
    "units": """
        fewest_units(givers, takers) fewest_matches(problem) unit_table(givers, takers) balanced_groups(givers, takers)
        shows_groups(givers, takers, value) match_set(problem)
    """,
    "networks": "temperatures(problem, network) flaw(problem, network) outside_of(problem, network)",
    "rings": """
        ring_count(problem, network) ring(problem, network) shows_ring(problem, network, value)
        moved(problem, network, ring, load) ringless(problem, network)
    """,
    "storing": """
        stored_outside(periods, is_round) stored_paper(periods, is_round) shows_stored(periods, is_round, value)
        gap_curve(problem, most)
    """,
    "curves": "curve(problem, gives) approach(problem, heating)",
    "paths": """
        path(problem, network) shows_path(problem, network, value) relieved(problem, network, path, load)
        least_relief(problem, network, path)
    """,
    "pairs": """
        level_pairs(problem, level, is_above) level_block(problem, level, is_above)
        shows_pairs(problem, level, is_above, value) shows_block(problem, level, is_above, value)
    """,
    "spreads": "worst_heating(problem, spreads) worst_rates(problem, spreads) shows_rates(problem, spreads, value)",
    "water": """
        least_fresh(water) water_plan(water) water_paper(water) shows_plan(water, value) shows_water(water, value)
    """,
    "cleaning": """
        cleaned_cost(water, dirt, fresh_price, price) cleaned_plan(water, dirt, fresh_price, price)
        cleaning_paper(water, dirt, fresh_price, price)
    """,
    "engines": """
        with_boxes(problem, boxes) engine_effect(problem, engine) pump_effect(problem, engine) placing(problem, engine)
        best_place(problem, heat, low, high)
    """,
    "cheapest": "cheapest_passing(problem, prices) shows_cheapest(problem, prices, value)",
    "jobs": "minutes(jobs, gap) busiest(jobs, gap) with_store(jobs, gap) idle(jobs, gap)",
    "plant": "Plant(gap)",
    "structures": """
        best_loads(problem, structure) load_paper(problem, structure) shows_loads(problem, structure, value)
        shows_paper(problem, structure, value) weak_corner(problem, structure, swings)
    """,
    "owners": "heat_shares(problem, owners) shows_shares(problem, owners, value)",
    "sites": "best_shifts(problem, columns, low, high) site_outside(problems, mains)",
    "rests": """
        rest_after(problem, hot, cold, load) penalty(problem, hot, cold, load) free_gap(problem) best_match(problem)
    """,
    "changes": "mirrored(problem) moved_by(problem, degrees) joined(one, other) cut_at(problem, level)",
    "crossings": "crossing(problem, network, level)",
    "targets": "most_at(problem, temperature) most_from(problem, temperature) unit_target(problem, level)",
}


class TestInterface(unittest.TestCase):
    def test_all(self):
        for module, listed in INTERFACE.items():
            found = vars(importlib.import_module(f"pinchworks.{module}"))
            for name, arguments in re.findall(r"(\w+)\(([^)]*)\)", listed):
                with self.subTest(name):
                    self.assertEqual(found[name].__module__, f"pinchworks.{module}")
                    self.assertEqual(", ".join(inspect.signature(found[name]).parameters), arguments)


if __name__ == "__main__":
    unittest.main()
