"""pinchworks.water: point 15."""

import random
import unittest
from fractions import Fraction

from pinchworks.water import least_fresh, shows_plan, shows_water, water_paper, water_plan
from tests.faults import JUNK, Faults, water_faults

ALL = (least_fresh, water_plan, water_paper)
SHOWING = (shows_plan, shows_water)
ONE = (((50, 20),), ((80, 10),))


def random_water(chance, most=4, flow=1000, dirt=1000):
    """Return water, some of it without any dirt."""
    sides = []
    for _ in range(2):
        side = [(chance.randint(1, flow), chance.randint(0, dirt)) for _ in range(chance.randint(1, most))]
        sides.append(tuple((own, chance.choice((0, foul, foul, foul))) for own, foul in side))
    return tuple(sides)


def cases(seed, many):
    chance = random.Random(seed)
    rows = []
    for _ in range(many):
        rows.append(random_water(chance))
        rows.append(random_water(chance, 3, 9, 6))
        rows.append(random_water(chance, 2, 3, 3))
    return rows


def is_ratio(value):
    if not (type(value) is tuple and [type(part) for part in value] == [int, int]) or value[1] < 1:
        return False
    return (Fraction(*value).numerator, Fraction(*value).denominator) == value


def as_fractions(value):
    """Return a tuple of ratios, or of tuples of these, with a fraction for each ratio, or None where one is none."""
    found = []
    for part in value:
        if not is_ratio(part):
            return None
        found.append(Fraction(*part))
    return found


def table_of(value, many_rows, many):
    """Return a table of fractions from 0 on with so many rows and columns, or None if a value is no such one."""
    if type(value) is not tuple or len(value) != many_rows:
        return None
    rows = []
    for row in value:
        if type(row) is not tuple or len(row) != many or as_fractions(row) is None:
            return None
        rows.append(as_fractions(row))
    return rows if all(flow >= 0 for row in rows for flow in row) else None


def fresh_of(water, value):
    """Return the sum of fresh flows of a plan, or None if it is none."""
    sources, sinks = water
    if type(value) is not tuple or len(value) != 2:
        return None
    table, fresh = table_of(value[0], len(sources), len(sinks)), table_of(value[1:], 1, len(sinks))
    if table is None or fresh is None:
        return None
    if any(sum(row) > flow for (flow, _), row in zip(sources, table)):
        return None
    for sink, (flow, dirt) in enumerate(sinks):
        if sum(row[sink] for row in table) + fresh[0][sink] != flow:
            return None
        if sum(row[sink] * foul for row, (_, foul) in zip(table, sources)) > flow * dirt:
            return None
    return sum(fresh[0])


def worth_of(water, value):
    """Return what a paper shows to be needed at least, or None if it is no paper."""
    sources, sinks = water
    if type(value) is not tuple or len(value) != 3 or any(type(side) is not tuple for side in value):
        return None
    if [len(side) for side in value] != [len(sinks), len(sinks), len(sources)]:
        return None
    a, b, c = map(as_fractions, value)
    if a is None or b is None or c is None or min(b + c) < 0 or max(a) > 1:
        return None
    for sink in range(len(sinks)):
        if any(a[sink] > b[sink] * dirt + own for (_, dirt), own in zip(sources, c)):
            return None
    total = sum(flow * (a[sink] - dirt * b[sink]) for sink, (flow, dirt) in enumerate(sinks))
    return total - sum(flow * own for (flow, _), own in zip(sources, c))


def bent(value):
    """Return values near a value of nested tuples of ratios: one ratio changed, or one tuple turned or cut."""
    if is_ratio(value):
        top, bottom = value
        return [(top + 1, bottom), (top - bottom, bottom), (-top, bottom), (2 * top, 2 * bottom), (-top, -bottom),
                (top + 1, bottom + 1), [top, bottom], (top,), (top, bottom, 1), top, None, (top, True), (True, bottom)]
    found = [list(value), value[::-1], value[1:], value + value[-1:], dict(enumerate(value))]
    for at, part in enumerate(value):
        found += [value[:at] + (near,) + value[at + 1:] for near in bent(part)]
    return found


def lowered(value):
    """Return plans near a plan in which one unit or the whole flow is taken from one place to another."""
    table, fresh = value
    found = []
    for row in range(len(table)):
        for one in range(len(fresh)):
            for step in (Fraction(1), Fraction(-1), Fraction(1, 3), -Fraction(*table[row][one])):
                flows = [[Fraction(*flow) for flow in flows] for flows in table]
                own = [Fraction(*flow) for flow in fresh]
                flows[row][one] += step
                own[one] -= step
                found.append((
                    tuple(tuple((flow.numerator, flow.denominator) for flow in some) for some in flows),
                    tuple((flow.numerator, flow.denominator) for flow in own),
                ))
    return found


class TestLeastFresh(unittest.TestCase):
    def test_plans_and_papers(self):
        # A plan with a sum and a paper of the same sum prove each other.
        kinds = {}
        for water in cases(151, 80):
            least, plan, paper = least_fresh(water), water_plan(water), water_paper(water)
            self.assertTrue(is_ratio(least), water)
            self.assertEqual(fresh_of(water, plan), Fraction(*least), (water, plan))
            self.assertEqual(worth_of(water, paper), Fraction(*least), (water, paper))
            self.assertIs(shows_plan(water, plan), True, (water, plan))
            self.assertIs(shows_water(water, paper), True, (water, paper))
            kind = (least[0] == 0, least[1] > 1)
            kinds[kind] = kinds.get(kind, 0) + 1
        self.assertEqual(len(kinds), 3, kinds)
        self.assertGreater(min(kinds.values()), 5, kinds)

    def test_one_source_and_one_sink(self):
        for flow in (1, 7, 80):
            for foul in (0, 1, 9, 10, 11, 1000):
                for dirt in (0, 3, 10, 1000):
                    used = min(Fraction(flow), Fraction(30), Fraction(30 * dirt, foul) if foul else Fraction(30))
                    found = least_fresh((((flow, foul),), ((30, dirt),)))
                    self.assertEqual(Fraction(*found), 30 - used, (flow, foul, dirt))

    def test_by_trying_all_flows(self):
        # All dirt is 0 or 1, so that whole flows do.
        chance = random.Random(152)
        for _ in range(30):
            water = random_water(chance, 2, 3, 1)
            self.assertEqual(least_fresh(water), (least_of_all_flows(water), 1), water)


def least_of_all_flows(water):
    """Return the least sum of fresh flows with integers, trying all."""
    sources, sinks = water
    many = len(sinks)
    best = [sum(flow for flow, _ in sinks)]

    def go(at, left, wanted, dirt):
        if at == len(sources) * many:
            best[0] = min(best[0], sum(wanted))
            return
        source, sink = divmod(at, many)
        for flow in range(min(left[source], wanted[sink]) + 1):
            foul = dirt[sink] - flow * sources[source][1]
            if foul >= 0:
                go(at + 1, changed(left, source, -flow), changed(wanted, sink, -flow), dirt[:sink] + (foul,) + dirt[sink + 1:])

    go(0, tuple(flow for flow, _ in sources), tuple(flow for flow, _ in sinks), tuple(flow * dirt for flow, dirt in sinks))
    return best[0]


def changed(row, at, step):
    return row[:at] + (row[at] + step,) + row[at + 1:]


class TestEdges(unittest.TestCase):
    def check(self, water, expected):
        self.assertEqual(Fraction(*least_fresh(water)), expected, water)
        self.assertEqual(fresh_of(water, water_plan(water)), expected, water)
        self.assertEqual(worth_of(water, water_paper(water)), expected, water)

    def test_no_dirt(self):
        self.check((((50, 0),), ((80, 0),)), 30)
        self.check((((50, 1),), ((80, 0),)), 80)
        self.check((((50, 0), (20, 3)), ((80, 0),)), 30)
        self.check((((50, 0),), ((30, 0),)), 0)
        self.check((((50, 0),), ((50, 0),)), 0)

    def test_sink_dirtier_than_all_sources(self):
        self.check((((50, 20), (10, 30)), ((80, 31),)), 20)
        self.check((((50, 20), (10, 30)), ((60, 31),)), 0)
        self.check((((50, 20), (10, 30)), ((60, 1000), (1, 1000))), 1)

    def test_just_met_on_the_average(self):
        self.check((((50, 20), (50, 40)), ((100, 30),)), 0)
        self.check((((50, 20), (50, 40)), ((100, 29),)), Fraction(5, 2))
        self.check((((50, 20), (49, 40)), ((100, 30),)), 1)
        self.check((((40, 20),), ((80, 10),)), 40)

    def test_dirty_water_is_split(self):
        self.check((((30, 100),), ((10, 50), (10, 50))), 10)
        self.check((((30, 100),), ((10, 50), (5, 20), (10, 50))), 14)

    def test_largest(self):
        self.check((((1000, 1000),) * 4, ((1000, 999),) * 4), 4)
        self.check((((1000, 1000),) * 4, ((1000, 1000),) * 4), 0)
        water = (((1000, 997), (999, 1000), (991, 1), (983, 13)), ((1000, 7), (997, 991), (5, 1000), (1000, 0)))
        self.check(water, Fraction(*least_fresh(water)))


class TestShown(unittest.TestCase):
    def test_which_plans_are_shown(self):
        shown = 0
        for water in cases(153, 20):
            least, plan = Fraction(*least_fresh(water)), water_plan(water)
            for near in bent(plan) + lowered(plan) + bent((plan[0], plan[1][::-1])):
                expected = fresh_of(water, near) == least
                self.assertIs(shows_plan(water, near), expected, (water, near))
                shown += expected and near != plan
        self.assertGreater(shown, 5)

    def test_which_papers_are_shown(self):
        shown = 0
        for water in cases(154, 12):
            least, paper = Fraction(*least_fresh(water)), water_paper(water)
            for near in bent(paper):
                expected = worth_of(water, near) == least
                self.assertIs(shows_water(water, near), expected, (water, near))
                shown += expected and near != paper
        self.assertGreater(shown, 5)

    def test_plans_with_more_fresh_water(self):
        self.assertEqual(least_fresh(ONE), (40, 1))
        self.assertIs(shows_plan(ONE, ((((40, 1),),), ((40, 1),))), True)
        self.assertIs(shows_plan(ONE, ((((39, 1),),), ((41, 1),))), False)
        self.assertIs(shows_plan(ONE, ((((41, 1),),), ((39, 1),))), False)
        self.assertIs(shows_plan(ONE, ((((40, 1),),), ((39, 1),))), False)
        self.assertIs(shows_plan(ONE, ((((40, 1),),), ((41, 1),))), False)
        self.assertIs(shows_plan((((30, 20),), ((80, 10),)), ((((31, 1),),), ((49, 1),))), False)
        self.assertIs(shows_plan((((30, 20),), ((80, 10),)), ((((30, 1),),), ((50, 1),))), True)

    def test_papers_by_hand(self):
        for paper, expected in (
            ((((1, 1),), ((1, 20),), ((0, 1),)), True),
            ((((1, 1),), ((1, 21),), ((0, 1),)), False),
            ((((1, 1),), ((1, 19),), ((0, 1),)), False),
            ((((2, 1),), ((1, 10),), ((0, 1),)), False),
            ((((1, 1),), ((0, 1),), ((1, 1),)), False),
            ((((1, 1),), ((1, 20),), ((-1, 50),)), False),
            ((((1, 1),), ((-1, 20),), ((2, 1),)), False),
            ((((1, 2),), ((0, 1),), ((0, 1),)), False),
            # The sum of these is the least one too, but the first worth is greater than 1.
            ((((3, 2),), ((1, 10),), ((0, 1),)), False),
            ((((2, 1),), ((3, 20),), ((0, 1),)), False),
            ((((11, 10),), ((3, 50),), ((0, 1),)), False),
        ):
            self.assertIs(shows_water(ONE, paper), expected, paper)
        water = (((50, 0),), ((80, 10),))
        self.assertIs(shows_water(water, (((1, 1),), ((0, 1),), ((1, 1),))), True)
        self.assertIs(shows_water(water, (((1, 1),), ((1, 1),), ((1, 1),))), False)
        # Nothing fresh is needed: papers may have worths below 0 only if others make up for it.
        water = (((50, 0),), ((50, 10),))
        self.assertIs(shows_water(water, (((0, 1),), ((0, 1),), ((0, 1),))), True)
        self.assertIs(shows_water(water, (((1, 2),), ((0, 1),), ((1, 2),))), True)
        self.assertIs(shows_water(water, (((-1, 1),), ((0, 1),), ((0, 1),))), False)

    def test_same_rows_in_another_order(self):
        water = (((10, 0), (20, 5)), ((10, 0), (20, 5)))
        plan = ((((10, 1), (0, 1)), ((0, 1), (20, 1))), ((0, 1), (0, 1)))
        self.assertIs(shows_plan(water, plan), True)
        self.assertIs(shows_plan(water, (plan[0][::-1], plan[1])), False)
        self.assertIs(shows_plan(water, plan[::-1]), False)


class TestFaults(Faults, unittest.TestCase):
    def test_water(self):
        for value, error in water_faults():
            for function in ALL:
                self.assert_fault(error, function, value)
            for function in SHOWING:
                self.assert_fault(error, function, value, None)
                self.assert_fault(error, function, value, ((), ()))

    def test_last_arguments(self):
        for water in (ONE, (((1, 2),), ((1, 2),)), (((50, 0),) * 4, ((80, 10),) * 4), (((50, 0),), ((80, 10),) * 2)):
            self.assert_truths(shows_plan, water)
            self.assert_truths(shows_water, water)
        # Ratios are pairs of integers, True and False are none.
        water = (((1, 1),), ((2, 1),))
        self.assertIs(shows_plan(water, ((((1, 1),),), ((1, 1),))), True)
        self.assertIs(shows_water(water, (((1, 1),), ((0, 1),), ((1, 1),))), True)
        for value in JUNK + [(True, 1), (1, True), [1, 1], (2, 2), (-1, -1), (1, 0), (0, 0), (1,), "11"]:
            if value != (1, 1) or type(value[0]) is bool or type(value[1]) is bool:
                self.assertIs(shows_plan(water, (((value,),), ((1, 1),))), False, value)
                self.assertIs(shows_plan(water, ((((1, 1),),), (value,))), False, value)
                self.assertIs(shows_plan(water, (value, ((1, 1),))), False, value)
                self.assertIs(shows_plan(water, ((value,), ((1, 1),))), False, value)
                self.assertIs(shows_plan(water, ((((1, 1),),), value)), False, value)
                self.assertIs(shows_water(water, ((value,), ((0, 1),), ((1, 1),))), False, value)
                self.assertIs(shows_water(water, (((1, 1),), ((0, 1),), (value,))), False, value)
                self.assertIs(shows_water(water, (value, ((0, 1),), ((1, 1),))), False, value)
                self.assertIs(shows_water(water, (((1, 1),), ((0, 1),), value)), False, value)
        for value in [(False, 1), (0, True), (0, 2), (0, -1), (0, 0), [0, 1], 0, None, (0,)]:
            self.assertIs(shows_water(water, (((1, 1),), (value,), ((1, 1),))), False, value)


if __name__ == "__main__":
    unittest.main()
