"""Promise [39] and the interface of labelroads.safety."""

import random
import unittest

from labelroads.errors import BadNet, BadNumber, BadRoad, BadShape
from labelroads.nets import failures
from labelroads.outcomes import outcomes
from labelroads.safety import comes_home, sturdy, unsafe
from tests import plain
from tests.samples import (
    NET, NO_HOUSES, NO_NUMBERS, NO_ROADS, NO_SHAPES, SMALL, clock_net, doubling_net, flat_net, little_net, some_net,
    some_shape, told_by,
)

LOST, EVER = ("lost",), ("ever",)
# a goes to road 1, which is home at 1, or round by 2 and 3, or is popped off where nothing is home; b comes home at
# another house; c is lost; d goes on for ever.
HOMES = (((0, 0), (0, 1), (0, 2), (2, 1)), ("a", "b", "c", "d"), (
    ((0, "a"), (((1, ()),), ((2, ("a",)),), ((0, ()),))),
    ((0, "b"), (((2, ()),),)),
    ((0, "d"), (((0, ("d",)),),)),
    ((1, ""), "home"),
    ((1, "a"), "home"),
    ((2, ""), "home"),
    ((2, "a"), (((3, ()),),)),
    ((3, ""), "home"),
))
# What is popped off leads back to the same road; without labels it is home at 0.
POPPED = (((0, 0), (0, 5)), ("a", "b"), (
    ((0, ""), "home"),
    ((0, "a"), (((0, ()),), ((1, ()),))),
))


def some_question(seed):
    """Arguments of all functions but sturdy, of nets of every kind."""
    chance = random.Random(seed)
    net = (some_net, little_net, flat_net)[seed % 3](seed)
    road = chance.randrange(len(net[0]))
    # Of a road to each house; the houses that others have never come.
    return net, chance.randint(0, 2), road, some_shape(chance, net[1], 3), chance.choice(net[0])[1]


class Safety(unittest.TestCase):
    def safe(self, net, most, road, shape, house):
        self.assertIs(comes_home(net, most, road, shape, house), True)
        self.assertIsNone(unsafe(net, most, road, shape, house))

    def unsafe(self, net, most, road, shape, house, failed, labels):
        """Parcels do not come home, first with these failed roads, by a stack of so many labels; tells the outcome."""
        self.assertIs(comes_home(net, most, road, shape, house), False)
        told = unsafe(net, most, road, shape, house)
        self.assertIsInstance(told, tuple)
        self.assertEqual((told[0], len(told[1])), (failed, labels))
        self.assertTrue(plain.cuts(shape, told[1]))
        self.assertIn(told[2], outcomes(net, failed, (road, told[1])))
        self.assertNotEqual(told[2], ("home", house))
        return told

    def test_each_outcome(self):
        self.safe(HOMES, 0, 0, ("a",), 1)
        self.safe(HOMES, 0, 0, ("b",), 2)
        self.assertEqual(self.unsafe(HOMES, 0, 0, ("b",), 1, (), 1), ((), ("b",), ("home", 2)))
        self.assertEqual(self.unsafe(HOMES, 0, 0, ("c",), 1, (), 1), ((), ("c",), LOST))
        self.assertEqual(self.unsafe(HOMES, 0, 0, ("d",), 1, (), 1), ((), ("d",), EVER))
        self.assertEqual(self.unsafe(HOMES, 0, 0, (), 1, (), 0), ((), (), LOST))

    def test_some_are_home_and_some_are_not(self):
        self.assertEqual(self.unsafe(HOMES, 0, 0, ("any",), 1, (), 1)[0], ())
        net = (((0, 0), (0, 1), (0, 2)), ("a",), (
            ((0, "a"), (((1, ()), (2, ())),)), ((1, ""), "home"), ((2, ""), "home"),
        ))
        for house in (1, 2):
            told = self.unsafe(net, 0, 0, ("a",), house, (), 1)
            self.assertEqual(told[2], ("home", 3 - house))
        self.unsafe(net, 0, 0, ("a",), 7, (), 1)

    def test_failed_roads(self):
        self.assertEqual(outcomes(HOMES, (1,), (0, ("a",))), (("home", 1),))
        self.safe(HOMES, 1, 0, ("a",), 1)
        # By road 2 a comes to 1, too, unless road 3 has failed; with two failed roads it is popped off.
        self.unsafe(HOMES, 2, 0, ("a",), 1, (1, 2), 1)
        self.unsafe(HOMES, 1, 2, ("a",), 1, (3,), 1)
        self.unsafe(HOMES, 2, 2, ("a",), 1, (3,), 1)
        self.safe(HOMES, 0, 2, ("a",), 1)
        self.safe(HOMES, 2, 2, (), 2)

    def test_shapes_without_all(self):
        self.safe(POPPED, 0, 0, (), 0)
        self.safe(POPPED, 0, 0, ("a",), 0)
        self.safe(POPPED, 0, 0, ("a", "a", "a", "a", "a", "a"), 0)
        self.unsafe(POPPED, 0, 0, ("any",), 0, (), 1)
        self.unsafe(POPPED, 0, 0, ("a", "any", "a"), 0, (), 3)
        self.unsafe(POPPED, 1, 0, ("a", "a"), 0, (0,), 2)
        # A stack that has the shape has another label below, which is not looked at.
        self.assertEqual(self.unsafe(POPPED, 0, 0, ("a", "b", "a"), 0, (), 3)[1], ("a", "b", "a"))

    def test_all_ahead_last_doubled_and_alone(self):
        only_a = (POPPED[0], ("a",), POPPED[2])
        for shape in (("all",), ("all", "a"), ("a", "all"), ("all", "all"), ("all", "a", "all"), ("all",) * 6):
            self.safe(only_a, 0, 0, shape, 0)
            self.unsafe(only_a, 1, 0, shape, 0, (0,), max(1, shape.count("a")))
        self.assertEqual(self.unsafe(POPPED, 0, 0, ("all",), 0, (), 1)[1], ("b",))
        self.assertEqual(self.unsafe(POPPED, 0, 0, ("a", "all"), 0, (), 2)[1], ("a", "b"))
        self.assertEqual(self.unsafe(POPPED, 0, 0, ("all", "a"), 0, (), 2)[1], ("b", "a"))
        self.assertEqual(self.unsafe(POPPED, 0, 0, ("all", "a", "all", "a"), 0, (), 3)[1].count("b"), 1)
        self.assertEqual(self.unsafe(POPPED, 0, 0, ("all", "b", "any", "all"), 0, (), 2)[1][0], "b")
        self.safe(POPPED, 0, 0, ("a",) * 6, 0)

    def test_the_empty_shape(self):
        self.safe(POPPED, 1, 0, (), 0)
        self.safe(POPPED, 2, 0, (), 0)
        self.unsafe(POPPED, 2, 1, (), 5, (), 0)
        self.unsafe(SMALL, 0, 0, (), 0, (), 0)
        self.assertIsNone(sturdy(SMALL, 0, (), 0))

    def test_long_stacks(self):
        """One clock alone, of four hours: it is not home only if its last hour is also the last label."""
        rows = {head: groups for head, groups in clock_net(())[2] if head[1] in ("", "a")}
        rows[(9, "b")] = (((0, ()),),)
        net = (((0, 0),) * 10, ("a", "b"), tuple(sorted(rows.items(), key=lambda row: row[0])))
        told = self.unsafe(net, 0, 9, ("b", "a", "a", "all", "a"), 0, (), 4)
        self.assertEqual(told[1:], (("b", "a", "a", "a"), LOST))
        self.safe(net, 0, 9, ("b", "a", "a"), 0)
        self.safe(net, 0, 9, ("b", "a", "a", "a", "a"), 0)
        tower = doubling_net(2046)
        net = (tower[0], tower[1], (((0, ""), "home"), *tower[2]))
        self.safe(net, 0, 0, ("a",), 0)
        self.safe(net, 0, 0, ("a", "a", "a"), 0)
        self.unsafe(net, 0, 0, ("a", "a", "any"), 0, (), 3)

    def test_pops_of_a_long_way(self):
        # From road to road: only the ninth label leads to a road where nothing is home.
        rows = [((road, ""), "home") for road in range(9)]
        rows += [((road, "a"), (((road + 1, ()),),)) for road in range(9)]
        net = (((0, 0),) * 10, ("a",), tuple(sorted(rows, key=lambda row: row[0])))
        self.assertEqual(self.unsafe(net, 0, 0, ("all",), 0, (), 9), ((), ("a",) * 9, LOST))
        self.assertEqual(self.unsafe(net, 1, 0, ("all",), 0, (), 9)[1], ("a",) * 9)
        self.unsafe(net, 1, 0, ("any", "any", "a"), 0, (1,), 3)
        self.safe(net, 0, 0, ("a",) * 6, 0)
        self.safe(net, 0, 3, ("a",) * 5, 0)
        self.unsafe(net, 0, 4, ("a",) * 5, 0, (), 5)

    def test_sturdy(self):
        self.assertEqual(sturdy(HOMES, 0, ("a",), 1), 1)
        self.assertEqual(sturdy(HOMES, 2, ("a",), 1), 0)
        self.assertIsNone(sturdy(HOMES, 0, ("c",), 1))
        self.assertIsNone(sturdy(HOMES, 0, ("a",), 2))
        self.assertEqual(sturdy(HOMES, 1, ("a",), 1), 2)
        self.assertEqual(sturdy(HOMES, 1, (), 1), 2)
        self.assertEqual(sturdy(POPPED, 0, ("a", "a"), 0), 0)
        # One road alone: more than one cannot fail.
        net = (((0, 0),), ("a",), (((0, ""), "home"), ((0, "a"), (((0, ()),),))))
        self.assertEqual(sturdy(net, 0, (), 0), 2)
        self.assertEqual(sturdy(net, 0, ("a",), 0), 0)

    def test_they_agree(self):
        told = []
        for seed in range(240):
            net, most, road, shape, house = some_question(seed)
            found = [unsafe(net, many, road, shape, house) for many in range(3)]
            homes = [comes_home(net, many, road, shape, house) for many in range(3)]
            self.assertEqual(homes, [one is None for one in found])
            self.assertEqual(sorted(homes, reverse=True), homes)
            number = sturdy(net, road, shape, house)
            self.assertEqual(number, homes.count(True) - 1 if homes[0] else None)
            told.append(number)
        for number in (None, 0, 2):
            self.assertGreater(told.count(number), 3, number)

    def test_outcomes_of_low_stacks(self):
        many = 0
        for seed in range(240):
            net, most, road, shape, house = some_question(seed)
            most = min(most, 1)
            found = unsafe(net, most, road, shape, house)
            wanted = self.first_unsafe(net, most, road, shape, house)
            if wanted is not None:
                self.unsafe(net, most, road, shape, house, wanted[0], len(wanted[1]))
                many += 1
            else:
                self.assertTrue(found is None or len(found[1]) > 3)
        self.assertTrue(40 < many < 230)

    def first_unsafe(self, net, most, road, shape, house):
        for failed in failures(net, most):
            for stack in plain.stacks_of(net[1], shape, 3):
                if plain.outcomes_of(net, failed, (road, stack)) != {("home", house)}:
                    return failed, stack
        return None


class Refusals(unittest.TestCase):
    def test_house_is_behind_all_others(self):
        for call, before in ((comes_home, (NET, 1, 0, ())), (unsafe, (NET, 1, 0, ())), (sturdy, (NET, 0, ()))):
            for value in NO_HOUSES:
                self.assertIs(told_by(self, BadNumber, call, *before, value).value, value)
            for house in range(8):
                call(*before, house)

    def test_several_at_once(self):
        chance = random.Random(3)
        for turn in range(200):
            number, road, shape, house = [
                chance.choice(values) for values in (NO_NUMBERS, NO_ROADS, NO_SHAPES, NO_HOUSES)
            ]
            for call in (comes_home, unsafe):
                self.assertIs(told_by(self, BadNumber, call, NET, number, road, shape, house).value, number)
                self.assertIs(told_by(self, BadRoad, call, NET, 2, road, shape, house).value, road)
                self.assertIs(told_by(self, BadShape, call, NET, 2, 3, shape, house).value, shape)
                told_by(self, BadNet, call, None, number, road, shape, house)
            self.assertIs(told_by(self, BadRoad, sturdy, NET, road, shape, house).value, road)
            self.assertIs(told_by(self, BadShape, sturdy, NET, 0, shape, house).value, shape)
            told_by(self, BadNet, sturdy, (), road, shape, house)


if __name__ == "__main__":
    unittest.main()
