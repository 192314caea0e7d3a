"""pinchworks.cheapest: point 18."""

import random
import unittest

from pinchworks import errors
from pinchworks.barring import passing, shows_passing
from pinchworks.cheapest import cheapest_passing, shows_cheapest
from tests import oracles
from tests.faults import BARRABLE, JUNK, Faults, problem_faults

# The givers of `BARRABLE` are 0 and 3, its takers 1 and 2.
PRICES = ((1, 2), (3, 4))
PLAIN = (((100, 50, 1), (20, 60, 1)), (), 10)
LARGEST = (((1000, 0, 100),) * 3 + ((0, 1000, 100),) * 3, ((1000, 10000), (0, -10000), (900, -10000), (100, 10000)), 100)


def sides(problem):
    """Return the numbers of the givers and those of the takers."""
    given, taken = oracles.spots(problem)
    return sorted({number for number, _ in given}), sorted({number for number, _ in taken})


def prices_for(chance, problem, most):
    givers, takers = sides(problem)
    return tuple(tuple(chance.randint(0, most) for _ in takers) for _ in givers)


def cases(seed, many, streams=6, boxes=4):
    """Return pairs (problem, prices): all equal, all 0 and unlike."""
    chance = random.Random(seed)
    rows = []
    for _ in range(many):
        problem = oracles.random_problem(chance, streams, boxes)
        rows.append((problem, prices_for(chance, problem, chance.choice((0, 1, 3, 100)))))
        problem = oracles.random_problem(chance, streams, boxes, span=8, rate=3, heat=9, gap=3)
        rows.append((problem, prices_for(chance, problem, chance.choice((0, 1, 3, 100)))))
        givers, takers = sides(problem)
        rows.append((problem, ((chance.randint(0, 100),) * len(takers),) * len(givers)))
    return rows


def cost_of(problem, prices, heats):
    givers, takers = sides(problem)
    table = dict(zip(givers, (dict(zip(takers, row)) for row in prices)))
    return sum(heat * table[giver][taker] for giver, _, taker, _, heat in heats)


def has_cheaper_change(problem, prices, heats):
    """Return whether some ring of changes makes a passing cheaper.

    A change passes a unit more on, or one less where one is passed on; what
    a giver keeps and what a taker lacks may be changed for that of others.
    """
    given, taken = oracles.spots(problem)
    givers, takers = sides(problem)
    passed = {entry[:4]: entry[4] for entry in heats}
    steps = []
    for giver in given:
        for taker in taken:
            if giver[1] <= taker[1]:
                price = prices[givers.index(giver[0])][takers.index(taker[0])]
                steps.append((("from", *giver), ("to", *taker), price))
                if passed.get((*giver, *taker), 0):
                    steps.append((("to", *taker), ("from", *giver), -price))
    for giver in given:
        gone = sum(heat for entry, heat in passed.items() if entry[:2] == giver)
        steps += [("kept", ("from", *giver), 0)] if gone < given[giver] else []
        steps += [(("from", *giver), "kept", 0)] if gone else []
    for taker in taken:
        got = sum(heat for entry, heat in passed.items() if entry[2:] == taker)
        steps += [(("to", *taker), "lacking", 0)] if got < taken[taker] else []
        steps += [("lacking", ("to", *taker), 0)] if got else []
    costs = {node: 0 for step in steps for node in step[:2]}
    for _ in range(len(costs) + 1):
        is_changed = False
        for tail, head, price in steps:
            if costs[tail] + price < costs[head]:
                costs[head] = costs[tail] + price
                is_changed = True
        if not is_changed:
            return False
    return True


class TestCheapest(unittest.TestCase):
    def test_no_change_makes_it_cheaper(self):
        for problem, prices in cases(181, 40):
            cost, heats = cheapest_passing(problem, prices)
            self.assertTrue(oracles.is_passing(problem, (), heats, oracles.outside(problem)[0]), (problem, heats))
            self.assertIs(shows_passing(problem, (), heats), True)
            self.assertEqual((type(cost), type(heats)), (int, tuple))
            self.assertEqual(cost_of(problem, prices, heats), cost, (problem, prices))
            self.assertFalse(has_cheaper_change(problem, prices, heats), (problem, prices, heats))
            self.assertIs(shows_cheapest(problem, prices, (cost, heats)), True)

    def test_dear_ones_can_be_made_cheaper(self):
        # The check above tells passings that are too dear.
        found = set()
        for problem, prices in cases(182, 20):
            heats = passing(problem, ())
            is_dear = cost_of(problem, prices, heats) > cheapest_passing(problem, prices)[0]
            self.assertEqual(has_cheaper_change(problem, prices, heats), is_dear)
            self.assertIs(shows_cheapest(problem, prices, (cost_of(problem, prices, heats), heats)), not is_dear)
            found.add(is_dear)
        self.assertEqual(found, {True, False})

    def test_by_trying_all_passings(self):
        chance = random.Random(183)
        unlike = 0
        for _ in range(60):
            problem = oracles.tiny_problem(chance, 3, 3)
            prices = prices_for(chance, problem, 4)
            given, taken = oracles.spots(problem)
            most = oracles.most_passed(given, taken, ())
            costs = set()
            for heats in oracles.passings(given, taken, ()):
                if sum(heats.values()) == most:
                    costs.add(cost_of(problem, prices, [(*entry, heat) for entry, heat in heats.items()]))
            self.assertEqual(cheapest_passing(problem, prices)[0], min(costs), (problem, prices))
            unlike += len(costs) > 1
        self.assertGreater(unlike, 10)

    def test_cheap_heat_that_costs_heating_is_not_taken(self):
        # The higher giver is cheap for both takers, but the upper taker has no other one.
        problem = ((), ((90, 5), (50, 5), (80, -5), (20, -5)), 0)
        self.assertEqual(cheapest_passing(problem, ((9, 0), (0, 9))), (90, ((0, 0, 2, 2, 5), (1, 4, 3, 6, 5))))
        self.assertIs(shows_cheapest(problem, ((9, 0), (0, 9)), (0, ((0, 0, 3, 6, 5),))), False)

    def test_equal_prices(self):
        for problem, prices in cases(184, 20)[2::3]:
            price = max(sum(prices, ()), default=0)
            moved = sum(entry[4] for entry in passing(problem, ()))
            self.assertEqual(cheapest_passing(problem, prices)[0], price * moved, (problem, prices))

    def test_prices_of_zero(self):
        self.assertEqual(cheapest_passing(BARRABLE, ((0, 0), (0, 0)))[0], 0)
        self.assertIs(shows_cheapest(BARRABLE, ((0, 0), (0, 0)), (0, passing(BARRABLE, ()))), True)
        self.assertIs(shows_cheapest(BARRABLE, ((0, 0), (0, 0)), (False, passing(BARRABLE, ()))), False)

    def test_without_givers_or_takers(self):
        givers, takers = (((180, 60, 2),), ((50, 7),), 10), (((60, 180, 2),), ((50, -7),), 10)
        for problem, prices in ((givers, ((), ())), (takers, ())):
            self.assertEqual(cheapest_passing(problem, prices), (0, ()))
            self.assertIs(shows_cheapest(problem, prices, (0, ())), True)
            self.assertIs(shows_cheapest(problem, prices, (1, ())), False)

    def test_largest(self):
        chance = random.Random(185)
        for most in (0, 1, 100):
            prices = prices_for(chance, LARGEST, most)
            cost, heats = cheapest_passing(LARGEST, prices)
            self.assertEqual(cost_of(LARGEST, prices, heats), cost)
            self.assertTrue(oracles.is_passing(LARGEST, (), heats, oracles.outside(LARGEST)[0]))
            self.assertFalse(has_cheaper_change(LARGEST, prices, heats))


class TestShown(unittest.TestCase):
    def test_values_near(self):
        shown = 0
        for problem, prices in cases(186, 12, 3, 3):
            cost, heats = cheapest_passing(problem, prices)
            heating, _ = oracles.outside(problem)
            nears = [(cost + 1, heats), (cost - 1, heats), (cost, heats[::-1]), (cost, list(heats)), [cost, heats]]
            nears += [(cost,), (cost, heats, heats), (heats, cost), heats, cost, None, (None, heats), (cost, None)]
            nears += [(str(cost), heats), ((cost, 1), heats), (cost, heats[1:]), (cost, heats + heats[:1])]
            for at, entry in enumerate(heats):
                for side in range(5):
                    for step in (-1, 1):
                        other = entry[:side] + (entry[side] + step,) + entry[side + 1:]
                        nears.append((cost, tuple(sorted(heats[:at] + (other,) + heats[at + 1:]))))
                for other in heats[at + 1:]:
                    nears += [(cost, exchanged(heats, entry, other)), (cost_after(problem, prices, heats, entry, other))]
            for near in nears:
                expected = near == (cost, heats) or self.is_cheapest(problem, prices, cost, heating, near)
                self.assertIs(shows_cheapest(problem, prices, near), expected, (problem, prices, near))
                shown += expected and near != (cost, heats)
        self.assertGreater(shown, 5)

    def is_cheapest(self, problem, prices, cost, heating, value):
        givers, takers = sides(problem)
        if type(value) is not tuple or len(value) != 2 or value[0] != cost or type(value[1]) is not tuple:
            return False
        if any(entry[0] not in givers or entry[2] not in takers for entry in value[1]):
            return False
        is_passing = oracles.is_passing(problem, (), value[1], heating)
        return is_passing and cost_of(problem, prices, value[1]) == cost


def exchanged(heats, entry, other):
    """Return the heats after one unit of each of two has gone to the taker of the other one."""
    table = {row[:4]: row[4] for row in heats}
    for key, step in ((entry[:4], -1), (other[:4], -1), (entry[:2] + other[2:4], 1), (other[:2] + entry[2:4], 1)):
        table[key] = table.get(key, 0) + step
    return tuple(sorted((*key, heat) for key, heat in table.items() if heat))


def cost_after(problem, prices, heats, entry, other):
    after = exchanged(heats, entry, other)
    return (cost_of(problem, prices, after), after)


class TestFaults(Faults, unittest.TestCase):
    def test_problems(self):
        for value, error in problem_faults():
            self.assert_fault(error, cheapest_passing, value, ())
            self.assert_fault(error, cheapest_passing, value, None)
            self.assert_fault(error, shows_cheapest, value, (), None)

    def test_prices(self):
        wrong = JUNK + [((1, 2),), ((1, 2), (3,)), ((1, 2, 3), (3, 4)), ((1, 2), (3, 4), (5, 6)), [(1, 2), (3, 4)], ((1, 2), [3, 4])]
        for price in [None, True, False, -1, 101, "1", (), (1,), [1], {}, 10 ** 30]:
            wrong += [((price, 2), (3, 4)), ((1, 2), (3, price))]
        for value in wrong:
            self.assert_fault(errors.BadPrices(), cheapest_passing, BARRABLE, value)
            self.assert_fault(errors.BadPrices(), shows_cheapest, BARRABLE, value, None)
            if value != () or not isinstance(value, tuple):
                self.assert_fault(errors.BadPrices(), cheapest_passing, (((60, 180, 2),), (), 10), value)
            if value != ((),):
                self.assert_fault(errors.BadPrices(), cheapest_passing, (((180, 60, 2),), (), 10), value)

    def test_limits(self):
        self.assertEqual(cheapest_passing(PLAIN, ((100,),))[0], 4000)
        self.assertEqual(cheapest_passing(PLAIN, ((0,),))[0], 0)
        self.assert_fault(errors.BadPrices(), cheapest_passing, PLAIN, ((101,),))

    def test_last_arguments(self):
        self.assert_truths(shows_cheapest, BARRABLE, PRICES)
        self.assert_truths(shows_cheapest, PLAIN, ((0,),))
        self.assert_truths(shows_cheapest, (((180, 60, 2),), (), 10), ((),))
        # The levels are 90, 60, 40 and 20.
        heats = ((0, 1, 1, 3, 20), (0, 1, 1, 5, 10), (0, 3, 1, 5, 10))
        self.assertIs(shows_cheapest(PLAIN, ((1,),), (40, heats)), True)
        for value in JUNK + [True, "40", 40, heats]:
            self.assertIs(shows_cheapest(PLAIN, ((1,),), (40, value)), value == heats, value)
            self.assertIs(shows_cheapest(PLAIN, ((1,),), (value, heats)), value == 40, value)
            self.assertIs(shows_cheapest(PLAIN, ((1,),), (40, heats + (value,))), False, value)
        box = ((), ((5, -1), (5, 1)), 0)
        self.assertIs(shows_cheapest(box, ((1,),), (1, ((1, 0, 0, 0, 1),))), True)
        self.assertIs(shows_cheapest(box, ((1,),), (True, ((1, 0, 0, 0, 1),))), False)
        self.assertIs(shows_cheapest(box, ((1,),), (1, ((True, 0, 0, 0, 1),))), False)
        self.assertIs(shows_cheapest(box, ((1,),), (1, ((1, 0, 0, 0, True),))), False)


if __name__ == "__main__":
    unittest.main()
