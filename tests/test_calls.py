"""Promises [0] to [3] for all functions of the interface: names, arguments, refusals in their order, and results."""

import importlib
import inspect
import itertools
import random
import unittest

from labelroads.errors import (
    BadEntries, BadFailed, BadGoal, BadHead, BadNet, BadNumber, BadParcel, BadRoad, BadShape,
)
from tests.samples import (
    GOALS, LABELS, NET, NO_ENTRIES, NO_FAILED, NO_GOALS, NO_HEADS, NO_HOUSES, NO_NUMBERS, NO_PARCELS, NO_ROADS,
    NO_SHAPES, ROADS, ROWS, WRONG, fault_place, nested, places, put_at, told_by,
)

# Of each function that refuses arguments: its module and its parameters.
CALLS = (
    ("shapes", "fits", "net shape stack"),
    ("machines", "least", "net failed goal"),
    ("machines", "is_closed", "net failed goal value"),
    ("machines", "can_come", "net failed parcel goal"),
    ("weights", "fewest_steps", "net failed road shape goal"),
    ("weights", "fewest_way", "net failed road shape goal"),
    ("reaching", "can", "net most road shape goal"),
    ("reaching", "paper", "net most road shape goal"),
    ("reaching", "check", "net most road shape goal value"),
    ("tops", "pops", "net failed"),
    ("tops", "pop_steps", "net failed"),
    ("tops", "links", "net failed"),
    ("tops", "heads_from", "net failed parcel"),
    ("tops", "comes_by_heads", "net failed parcel goal"),
    ("ever", "ring_heads", "net failed"),
    ("ever", "for_ever", "net failed parcel"),
    ("ever", "first_for_ever", "net most road shape"),
    ("ever", "ever_paper", "net failed parcel"),
    ("ever", "check_ever", "net failed parcel paper"),
    ("heights", "height", "net failed parcel"),
    ("outcomes", "outcomes", "net failed parcel"),
    ("likeness", "alike", "one other most"),
    ("likeness", "parted", "one other most"),
    ("safety", "comes_home", "net most road shape house"),
    ("safety", "unsafe", "net most road shape house"),
    ("safety", "sturdy", "net road shape house"),
    ("serving", "serving", "net most entries"),
    ("serving", "pruned", "net most entries"),
    ("twins", "twins", "net"),
    ("twins", "merged", "net"),
    ("twins", "merged_parcel", "net parcel"),
    ("texts", "net_text", "net"),
    ("texts", "parcel_text", "net parcel"),
    ("texts", "read_parcel", "net text"),
    ("turning", "with_row", "net head groups"),
    ("turning", "turned_parcel", "net head groups most"),
)
GOOD = {
    "net": NET,
    "one": NET,
    "other": (ROADS, LABELS, ROWS[1:]),
    "failed": (1, 3),
    "most": 1,
    "road": 0,
    "shape": ("a", "all"),
    "goal": ("house", 0),
    "parcel": (0, ("a", "b")),
    "head": (0, "a"),
    "groups": "home",
    "text": "0 b",
    "house": 2,
    "entries": ((0, ("a",)), (3, ("all",))),
    "stack": ("a", "b"),
    "value": ("way", (), (), ()),
    "paper": ("ends", ((0, "a", 2), (1, "a", 1)), (((0, "a"), 1), ((2, ""), 0), ((2, "b"), 0))),
}
# Good arguments of a function for which those above are none: what is passed has to be a paper.
OTHERS = {"check": {"goal": ("at", 0, ("a",)), "value": ("way", (), ("a",), ())}}
REFUSED = {
    "failed": (BadFailed, NO_FAILED),
    "most": (BadNumber, NO_NUMBERS),
    "road": (BadRoad, NO_ROADS),
    "shape": (BadShape, NO_SHAPES),
    "goal": (BadGoal, NO_GOALS),
    "parcel": (BadParcel, NO_PARCELS),
    "head": (BadHead, NO_HEADS),
    "house": (BadNumber, NO_HOUSES),
    "entries": (BadEntries, NO_ENTRIES),
}


def functions():
    """Each function, with the names of its parameters and good arguments."""
    found = []
    for module, name, parameters in CALLS:
        call = getattr(importlib.import_module(f"labelroads.{module}"), name)
        names = parameters.split()
        good = {**GOOD, **OTHERS.get(name, {})}
        found.append((call, names, [good[parameter] for parameter in names]))
    return found


NETS = ("net", "one", "other")


class Names(unittest.TestCase):
    def test_functions_and_their_parameters(self):
        for (module, name, parameters), (call, names, good) in zip(CALLS, functions()):
            self.assertTrue(inspect.isfunction(call))
            self.assertEqual((call.__module__, call.__name__), (f"labelroads.{module}", name))
            told = inspect.signature(call).parameters.values()
            self.assertEqual([parameter.name for parameter in told], names)
            self.assertEqual({parameter.kind for parameter in told}, {inspect.Parameter.POSITIONAL_OR_KEYWORD})
            self.assertEqual({parameter.default for parameter in told}, {inspect.Parameter.empty})

    def test_arguments_by_name(self):
        for call, names, good in functions():
            told = call(*good)
            named = list(zip(names, good))
            self.assertEqual(call(**dict(named[::-1])), told)
            self.assertEqual(call(*good[:2], **dict(named[2:])), told)

    def test_equal_calls_return_equal_results(self):
        for call, names, good in functions():
            self.assertEqual(call(*good), call(*good))
            told = call(*good)
            if isinstance(told, dict):
                told.clear()
                self.assertNotEqual(told, call(*good))


class Refusals(unittest.TestCase):
    def refused(self, call, values, name, value):
        error, wrong = REFUSED[name]
        told = told_by(self, error, call, *values)
        if name == "entries":
            # Which place this is, the tests of labelroads.serving look at.
            self.assertIn(told.place, (None, 0, 1))
        else:
            self.assertIs(told.value, value, (call, values))

    def test_every_wrong_value_in_each_place(self):
        for call, names, good in functions():
            for place, name in enumerate(names):
                for value in REFUSED.get(name, (None, ()))[1]:
                    self.refused(call, [*good[:place], value, *good[place + 1 :]], name, value)

    def test_two_wrong_values_at_once(self):
        chance = random.Random(6)
        for call, names, good in functions():
            wrong = [place for place, name in enumerate(names) if name in REFUSED]
            for first, second in itertools.combinations(wrong, 2):
                for turn in range(10):
                    values = list(good)
                    values[first] = chance.choice(REFUSED[names[first]][1])
                    values[second] = chance.choice(REFUSED[names[second]][1])
                    self.refused(call, values, names[first], values[first])

    def test_all_that_stands_behind_is_wrong(self):
        for call, names, good in functions():
            for place, name in enumerate(names):
                for behind in WRONG:
                    values = [*good[:place], *[behind for name in names[place:]]]
                    if name in NETS:
                        self.assertEqual(told_by(self, BadNet, call, *values).place, ())
                    elif name in REFUSED:
                        self.refused(call, values, name, behind)

    def test_no_net(self):
        chance = random.Random(7)
        paths = places(NET)
        for call, names, good in functions():
            for turn in range(150):
                path, value = chance.choice(paths), chance.choice(WRONG)
                others = chance.choice((good[1:], [None for name in names[1:]]))
                told = told_by(self, BadNet, call, put_at(NET, path, value), *others)
                self.assertEqual(told.place, fault_place(path, value))

    def test_what_is_of_another_net(self):
        """Values that other nets have, but not this one."""
        one = (((0, 0),), ("b",), ())
        values = {
            "failed": ((1,), (0, 1)),
            "road": (1, 3),
            "shape": (("a",), ("any", "a")),
            "goal": (("at", 1, ()), ("at", 0, ("a",)), ("heads", ((0, "a"),)), ("heads", ((1, ""),))),
            "parcel": ((1, ()), (0, ("a",)), (0, ("b", "a"))),
            "entries": (((1, ()),), ((0, ("a",)),), ((0, ("b",)), (0, ("all", "a")))),
            "head": ((1, ""), (1, "b"), (0, "a")),
        }
        fine = {
            "net": one, "one": one, "other": one, "failed": (0,), "road": 0, "shape": ("b",), "goal": ("lost",),
            "parcel": (0, ("b",)), "entries": ((0, ("b",)),), "head": (0, "b"),
        }
        for call, names, good in functions():
            good = [fine.get(name, value) for name, value in zip(names, good)]
            for place, name in enumerate(names):
                for value in values.get(name, ()):
                    self.refused(call, [*good[:place], value, *good[place + 1 :]], name, value)

    def test_deep_values(self):
        for call, names, good in functions():
            for place, name in enumerate(names):
                if name in REFUSED:
                    value = (nested(49),)
                    self.refused(call, [*good[:place], value, *good[place + 1 :]], name, value)

    def test_lists_in_the_place_of_tuples(self):
        """They are refused, and stay what they are."""
        for call, names, good in functions():
            for place, name in enumerate(names):
                if name in REFUSED and isinstance(good[place], tuple):
                    value = list(good[place])
                    self.refused(call, [*good[:place], value, *good[place + 1 :]], name, value)
                    self.assertEqual(value, list(good[place]))
            self.assertEqual(told_by(self, BadNet, call, [ROADS, LABELS, ROWS], *good[1:]).place, ())


class Accepted(unittest.TestCase):
    """What stands at the edges is not refused."""

    def test_goals(self):
        more = (
            ("house", 7), ("home", 0), ("heads", tuple((road, top) for road in range(4) for top in ("", "a", "b"))),
            ("at", 3, ("all", "any", "a", "b", "all", "any")), ("at", 0, ()),
        )
        for call, names, good in functions():
            # A paper is on one goal alone.
            if "goal" in names and "value" not in names:
                for goal in (*GOALS, *more):
                    if call.__name__ != "comes_by_heads" or goal[0] != "at":
                        call(*[goal if name == "goal" else value for name, value in zip(names, good)])

    def test_shapes(self):
        for call, names, good in functions():
            if "shape" in names and "value" not in names:
                for shape in ((), ("any",), ("all",) * 6, ("a", "b", "any", "all", "b", "a")):
                    call(*[shape if name == "shape" else value for name, value in zip(names, good)])

    def test_numbers_roads_and_failed_roads(self):
        values = {
            "most": (0, 1, 2),
            "road": (0, 1, 2, 3),
            "failed": ((), (0,), (3,), (0, 1, 2, 3)),
            "parcel": ((0, ()), (3, ("a",) * 3000)),
            "house": tuple(range(8)),
            "entries": (((3, ()),), ((0, ("all",) * 6),) * 6),
            "head": tuple((road, top) for road in range(4) for top in ("", "a", "b")),
        }
        for call, names, good in functions():
            for place, name in enumerate(names):
                if "value" not in names and "paper" not in names:
                    for value in values.get(name, ()):
                        call(*good[:place], value, *good[place + 1 :])


if __name__ == "__main__":
    unittest.main()
