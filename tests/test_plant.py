"""pinchworks.plant: point 20."""

import inspect
import random
import unittest

from pinchworks import errors, plant
from pinchworks.cascades import least_outside
from pinchworks.plant import Plant
from tests import oracles
from tests.faults import BAD_GAPS, BAD_NAMES, BAD_STREAMS, GOOD_NAMES, JUNK, Faults

ONE, TWO, THREE = (180, 60, 2), (20, 100, 3), (150, 50, 1)


def filled(streams, gap=10):
    """Return a plant with streams by the names a, b, ..."""
    found = Plant(gap)
    for name, stream in zip("abcdef", streams):
        found.put(name, stream)
    return found


def state(of):
    """Return all that can be asked of a plant without changing it."""
    held = {name: of.get(name) for name in of.names()}
    return (of.names(), held, of.problem() if held else None, of.outside())


def heating(streams, gap):
    return oracles.outside((tuple(streams), (), gap))[0] if streams else 0


class Model:
    """What a plant has to hold: copies of all states so far."""

    def __init__(self):
        self.states = [{}]

    def change(self, name, stream):
        held = dict(self.states[-1])
        if stream is None:
            del held[name]
        else:
            held[name] = stream
        self.states.append(held)


class TestPlant(unittest.TestCase):
    def test_methods_stand_in_the_class(self):
        arguments = {"put": "name, stream", "drop": "name", "get": "name", "names": "", "undo": "", "problem": "",
                     "outside": "", "saved": "some"}
        for name, expected in arguments.items():
            self.assertIn(name, vars(Plant))
            self.assertEqual(", ".join(list(inspect.signature(vars(Plant)[name]).parameters)[1:]), expected)
        self.assertEqual(list(inspect.signature(Plant).parameters), ["gap"])
        self.assertEqual(Plant.__module__, plant.__name__)

    def test_put_and_get(self):
        one = Plant(10)
        self.assertEqual(state(one), ((), {}, None, (0, 0)))
        self.assertIsNone(one.put("b", ONE))
        self.assertIsNone(one.put("a", TWO))
        self.assertIsNone(one.put("ab", THREE))
        self.assertEqual(one.names(), ("a", "ab", "b"))
        self.assertEqual([one.get("a"), one.get("b"), one.get("ab")], [TWO, ONE, THREE])
        self.assertEqual(one.problem(), ((TWO, THREE, ONE), (), 10))
        self.assertEqual(one.outside(), least_outside(one.problem()))
        self.assertIsNone(one.put("a", ONE))
        self.assertEqual(one.problem(), ((ONE, THREE, ONE), (), 10))

    def test_drop(self):
        one = filled((ONE, TWO))
        self.assertEqual(one.drop("a"), ONE)
        self.assertEqual(one.names(), ("b",))
        self.assertEqual(one.problem(), ((TWO,), (), 10))
        self.assertEqual(one.outside(), (240, 0))
        self.assertEqual(one.drop("b"), TWO)
        self.assertEqual(state(one), ((), {}, None, (0, 0)))

    def test_undo(self):
        one = filled((ONE,))
        one.put("b", TWO)
        one.put("a", THREE)
        one.drop("b")
        one.drop("a")
        self.assertEqual(one.names(), ())
        self.assertIsNone(one.undo())
        self.assertEqual(one.problem(), ((THREE,), (), 10))
        self.assertIsNone(one.undo())
        self.assertEqual(one.problem(), ((THREE, TWO), (), 10))
        # The put that is taken back had replaced a stream.
        one.undo()
        self.assertEqual(one.problem(), ((ONE, TWO), (), 10))
        one.undo()
        self.assertEqual(one.names(), ("a",))
        one.put("c", TWO)
        one.undo()
        one.undo()
        self.assertEqual(state(one), ((), {}, None, (0, 0)))
        with self.assertRaises(errors.NothingToUndo):
            one.undo()
        one.put("a", ONE)
        self.assertEqual(one.get("a"), ONE)

    def test_put_of_the_same_stream_is_taken_back_by_itself(self):
        one = filled((ONE,))
        one.put("a", ONE)
        one.undo()
        self.assertEqual(one.get("a"), ONE)
        one.undo()
        self.assertEqual(one.names(), ())

    def test_two_plants_are_apart(self):
        one, other = filled((ONE,)), filled((TWO,), 20)
        one.undo()
        self.assertEqual((one.names(), other.names()), ((), ("a",)))
        self.assertEqual(other.problem(), ((TWO,), (), 20))

    def test_many_calls(self):
        chance = random.Random(201)
        for _ in range(40):
            gap = chance.randint(0, 100)
            one, model = Plant(gap), Model()
            for _ in range(60):
                self.step(chance, one, model)
                held = model.states[-1]
                self.assertEqual(one.names(), tuple(sorted(held)))
                self.assertEqual({name: one.get(name) for name in held}, held)
                if held:
                    self.assertEqual(one.problem(), (tuple(held[name] for name in sorted(held)), (), gap))

    def step(self, chance, one, model):
        """Call one method of a plant, with or without success, and do the same to its model."""
        held = model.states[-1]
        kind = chance.choice(("put", "put", "put", "drop", "undo", "undo", "wrong"))
        name = chance.choice(("a", "b", "c", "d", "e", "f", "g", "ab"))
        if kind == "put":
            stream = chance.choice((ONE, TWO, THREE, (0, 1000, 100)))
            if len(held) == 6 and name not in held:
                with self.assertRaises(errors.TooMany):
                    one.put(name, stream)
            else:
                one.put(name, stream)
                model.change(name, stream)
        elif kind == "drop":
            if name in held:
                self.assertEqual(one.drop(name), held[name])
                model.change(name, None)
            else:
                with self.assertRaises(errors.NoName):
                    one.drop(name)
        elif kind == "undo":
            if len(model.states) > 1:
                self.assertIsNone(one.undo())
                model.states.pop()
            else:
                with self.assertRaises(errors.NothingToUndo):
                    one.undo()
        else:
            with self.assertRaises(errors.HeatError):
                chance.choice((lambda: one.put("A", ONE), lambda: one.put("a", None), lambda: one.drop("zz")))()


class TestOutside(unittest.TestCase):
    def test_outside(self):
        chance = random.Random(202)
        for _ in range(30):
            streams, _, gap = oracles.random_problem(chance, 6, 0)
            one = filled(streams, gap)
            self.assertEqual(one.outside(), oracles.outside((streams, (), gap)))
            self.assertEqual(one.problem(), (streams, (), gap))

    def test_saved(self):
        chance = random.Random(203)
        greatest = 0
        for _ in range(40):
            streams, _, gap = oracles.random_problem(chance, 6, 0)
            one = filled(streams, gap)
            names = list(one.names())
            for _ in range(4):
                some = chance.sample(names, chance.randint(0, len(names)))
                group = [one.get(name) for name in some]
                others = [one.get(name) for name in names if name not in some]
                expected = heating(group, gap) + heating(others, gap) - heating(streams, gap)
                self.assertEqual(one.saved(tuple(some)), expected, (streams, gap, some))
                greatest = max(greatest, expected)
        self.assertGreater(greatest, 100)

    def test_groups_of_none_and_of_all(self):
        self.assertEqual(Plant(10).saved(()), 0)
        one = filled((ONE, TWO, THREE))
        self.assertEqual([one.saved(()), one.saved(("a", "b", "c")), one.saved(("c", "a", "b"))], [0, 0, 0])
        self.assertEqual([one.saved(("a",)), one.saved(("b", "c")), one.saved(("c", "b"))], [140, 140, 140])
        self.assertEqual([one.saved(("b",)), one.saved(("a", "c"))], [240, 240])
        self.assertEqual(one.saved(("c",)), 0)

    def test_asking_changes_nothing(self):
        one = filled((ONE, TWO))
        before = state(one)
        one.saved(("a",))
        one.outside()
        one.problem()
        one.names()
        one.get("a")
        self.assertEqual(state(one), before)
        one.undo()
        self.assertEqual(one.names(), ("a",))


class TestFaults(Faults, unittest.TestCase):
    def assert_refused(self, error, of, method, *arguments):
        """Check that a call raises just this error and changes nothing."""
        before = state(of)
        self.assert_fault(error, getattr(of, method), *arguments)
        self.assertEqual(state(of), before)

    def test_gaps(self):
        for value in BAD_GAPS + [value for value in JUNK if not isinstance(value, int)]:
            self.assert_fault(errors.BadGap(), Plant, value)
        for gap in (0, 100):
            self.assertEqual(filled((ONE,), gap).problem(), ((ONE,), (), gap))

    def test_names(self):
        one = filled((ONE, TWO))
        for value in BAD_NAMES + [value for value in JUNK if value not in ("a",)]:
            for method in ("drop", "get"):
                self.assert_refused(errors.BadName(), one, method, value)
            for stream in (ONE, None, value):
                self.assert_refused(errors.BadName(), one, "put", value, stream)
        for value in GOOD_NAMES:
            self.assertIsNone(one.put(value, THREE))
            self.assertEqual(one.get(value), THREE)
            self.assertEqual(one.drop(value), THREE)

    def test_absent_names(self):
        one = filled((ONE, TWO))
        for of in (one, Plant(0)):
            for value in ("c", "ab", "abcdefgh"):
                self.assert_refused(errors.NoName(), of, "drop", value)
                self.assert_refused(errors.NoName(), of, "get", value)
                self.assert_refused(errors.NoName(), of, "saved", (value,))
        one.drop("a")
        self.assert_refused(errors.NoName(), one, "drop", "a")
        self.assert_refused(errors.NoName(), one, "get", "a")

    def test_streams(self):
        one = filled((ONE, TWO))
        for value in BAD_STREAMS + JUNK:
            if value != (1, 2, 3):
                for name in ("a", "c"):
                    self.assert_refused(errors.BadStreams(None), one, "put", name, value)

    def test_seventh_stream(self):
        full = filled((ONE, TWO, THREE) * 2)
        self.assertEqual(len(full.names()), 6)
        self.assert_refused(errors.TooMany(6), full, "put", "g", ONE)
        self.assert_refused(errors.BadName(), full, "put", "G", ONE)
        self.assert_refused(errors.BadStreams(None), full, "put", "g", None)
        self.assert_refused(errors.BadName(), full, "put", None, None)
        self.assertIsNone(full.put("f", ONE))
        self.assertEqual(full.get("f"), ONE)
        full.drop("a")
        self.assertIsNone(full.put("g", ONE))
        self.assert_refused(errors.TooMany(6), full, "put", "a", ONE)
        full.undo()
        full.undo()
        full.undo()
        self.assertEqual(full.problem(), ((ONE, TWO, THREE) * 2, (), 10))

    def test_undo_after_errors(self):
        one = filled((ONE, TWO))
        for call in (("put", "A", ONE), ("put", "c", None), ("drop", "c"), ("get", "c"), ("saved", None)):
            with self.assertRaises(errors.HeatError):
                getattr(one, call[0])(*call[1:])
        one.undo()
        self.assertEqual(one.problem(), ((ONE,), (), 10))
        one.undo()
        for _ in range(3):
            self.assert_refused(errors.NothingToUndo(), one, "undo")

    def test_nothing_to_undo(self):
        self.assert_refused(errors.NothingToUndo(), Plant(10), "undo")
        one = Plant(10)
        with self.assertRaises(errors.NoName):
            one.drop("a")
        self.assert_refused(errors.NothingToUndo(), one, "undo")

    def test_no_streams(self):
        one = Plant(10)
        self.assert_refused(errors.BadProblem(), one, "problem")
        one.put("a", ONE)
        one.drop("a")
        self.assert_refused(errors.BadProblem(), one, "problem")
        self.assertEqual(one.outside(), (0, 0))

    def test_groups(self):
        one = filled((ONE, TWO, THREE))
        for value in [None, True, False, 0, "", "a", "ab", [], ["a"], {}, {"a": 1}, 10 ** 30]:
            self.assert_refused(errors.BadGroup(), one, "saved", value)
        for value in [("a", "a"), ("a", "b", "a"), ("c", "b", "b"), ("zz", "zz"), ("A", "A"), ("a", "A", "zz", "a")]:
            self.assert_refused(errors.BadGroup(), one, "saved", value)
        for value in BAD_NAMES + [None, True, 1, (), ("a",), ["a"], {"a": "b"}]:
            self.assert_refused(errors.BadName(), one, "saved", (value,))
            self.assert_refused(errors.BadName(), one, "saved", ("a", value))
            self.assert_refused(errors.BadName(), one, "saved", (value, "zz", "b"))
            self.assert_refused(errors.NoName(), one, "saved", ("b", "zz", value))
        self.assert_refused(errors.BadName(), one, "saved", (1, True))
        self.assert_refused(errors.BadName(), one, "saved", ("a", False, 0))
        self.assert_refused(errors.NoName(), one, "saved", ("a", "b", "d"))
        self.assert_refused(errors.NoName(), one, "saved", ("abcdefgh", "abcdefghi"))
        self.assert_refused(errors.BadName(), one, "saved", ("abcdefghi", "abcdefgh"))

    def test_junk_groups(self):
        one = filled((ONE, TWO, THREE))
        for value in JUNK:
            if value != () and value != ("a", "b"):
                kind = errors.BadName if isinstance(value, tuple) else errors.BadGroup
                if isinstance(value, tuple) and any(value[at] == value[at - 1] for at in range(1, len(value))):
                    continue
                self.assert_refused(kind(), one, "saved", value)
        self.assert_refused(errors.BadGroup(), Plant(0), "saved", ["a"])


if __name__ == "__main__":
    unittest.main()
