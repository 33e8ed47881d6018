"""The interface of labelroads.weights, for promises [13], [14] and [20]."""

import random
import unittest

from labelroads import weights
from labelroads.errors import BadGoal, TooGreat
from labelroads.machines import can_come
from labelroads.parcels import walked
from labelroads.weights import fewest_steps, fewest_way
from tests import plain
from tests.samples import (
    GOALS, NET, SMALL, all_heads, doubling_net, flat_net, little_net, ninefold_net, some_failed, some_goal, some_net,
    some_shape, some_word, steps_of_ninefold, told_by, winding_net,
)

POPPED = ("at", 0, ())


class Holding(unittest.TestCase):
    def holds(self, net, failed, road, shape, goal):
        """What both functions tell agrees, and the way can be gone; returns the way."""
        number = fewest_steps(net, failed, road, shape, goal)
        way = fewest_way(net, failed, road, shape, goal)
        if way is None:
            self.assertIsNone(number)
            return None
        self.assertIsInstance(way, tuple)
        stack, taken = way
        self.assertIsInstance(taken, tuple)
        self.assertEqual(len(taken), number)
        self.assertIsInstance(number, int)
        self.assertTrue(plain.cuts(shape, stack), (shape, stack))
        end = walked(net, failed, (road, stack), taken)
        self.assertTrue(plain.has_come(net, failed, goal, end), (goal, end))
        self.assertEqual(way, fewest_way(net, failed, road, shape, goal))
        return way


class ByHand(Holding):
    def test_number(self):
        self.assertEqual((weights.MOST_STEPS, weights.MOST_STEPS.__class__), (2000, int))

    def test_a_goal_that_has_come_at_once(self):
        self.assertEqual(fewest_way(NET, (), 0, ("b",), ("home",)), (("b",), ()))
        self.assertEqual(fewest_way(NET, (), 3, (), ("home", 2)), ((), ()))
        self.assertEqual(fewest_way(NET, (), 2, ("a", "b"), ("at", 2, ("all", "b"))), (("a", "b"), ()))
        self.assertEqual(fewest_steps(NET, (), 0, ("b",), ("home",)), 0)
        stack, taken = self.holds(NET, (), 0, ("any", "a", "all"), ("house", 1))
        self.assertEqual((stack[1], taken), ("a", ()))

    def test_a_goal_that_cannot_come(self):
        for goal in (("heads", ()), ("home", 7), ("house", 7), ("at", 2, ())):
            self.assertIsNone(fewest_steps(NET, (), 0, ("all",), goal), goal)
            self.assertIsNone(fewest_way(NET, (), 0, ("all",), goal), goal)
        self.assertIsNone(fewest_way(SMALL, (), 0, ("all",), ("home",)))

    def test_one_step(self):
        self.assertEqual(fewest_way(NET, (), 2, ("a",), ("heads", ((0, "b"),))), (("a",), ((0, ("b", "a")),)))
        self.assertEqual(fewest_way(NET, (1, 3), 0, ("a", "b"), ("house", 0)), (("a", "b"), ((2, ()),)))
        self.assertEqual(fewest_steps(NET, (), 0, (), ("at", 3, ("a", "b", "a"))), 1)

    def test_a_step_from_a_stack_without_labels(self):
        rows = (((0, ""), (((0, ("a", "a")),),)), ((0, "a"), (((1, ()),),)), ((1, "a"), "home"))
        net = (((0, 0), (0, 1)), ("a",), rows)
        self.assertEqual(fewest_way(net, (), 0, (), ("home",)), ((), ((0, ("a", "a")), (1, ()))))
        self.assertEqual(fewest_steps(net, (), 0, ("all",), ("home",)), 1)
        self.assertEqual(fewest_steps(net, (), 0, ("any",), ("home",)), None)

    def test_the_stack_of_the_shape_with_which_it_is_least(self):
        rows = (((0, "a"), (((0, ()),),)), ((0, "b"), (((0, ("a", "a", "a")),),)), ((0, "c"), "home"))
        net = (((0, 0),), ("c", "b", "a"), rows)
        self.assertEqual(fewest_way(net, (), 0, ("any", "c", "all"), ("home",)), (("c", "c"), ()))
        way = self.holds(net, (), 0, ("a", "any", "b"), ("at", 0, ("a", "b")))
        self.assertEqual((len(way[0]), len(way[1])), (3, 1))
        way = self.holds(net, (), 0, ("b", "b", "a", "a", "all", "c"), ("at", 0, ("c",)))
        self.assertEqual((way[0], len(way[1])), (("b", "b", "a", "a", "c"), 10))
        way = self.holds(net, (), 0, ("b", "any", "any", "c"), ("home",))
        self.assertEqual((way[0][1], len(way[1])), ("c", 4))

    def test_choices_that_are_dear_and_cheap(self):
        groups = (((0, ("b", "b")), (0, ("c", "c", "c"))),)
        net = (((0, 0),), ("a", "b", "c"), (
            ((0, "a"), groups), ((0, "b"), (((0, ("c", "c")),),)), ((0, "c"), (((0, ()),),)),
        ))
        self.assertEqual(fewest_way(net, (), 0, ("a",), POPPED), (("a",), ((0, ("c", "c", "c")), *((0, ()),) * 3)))

    def test_the_cheap_choice_behind_the_dear_one(self):
        # The choice of b that is less dear by one comes behind the other one in every order, and is found later.
        rows = (((0, "a"), (((0, ("b",)),),)), ((0, "b"), (((0, ("c", "c")), (1, ("d",))),)), ((0, "c"), (((0, ()),),)))
        net = (((0, 0), (0, 0)), ("a", "b", "c", "d"), (*rows, ((1, "d"), (((0, ()),),))))
        for label, number in (("a", 3), ("b", 2), ("c", 1)):
            self.assertEqual(fewest_steps(net, (), 0, (label,), POPPED), number)
            self.assertEqual(len(self.holds(net, (), 0, (label,), POPPED)[1]), number)
        self.assertEqual(fewest_steps(net, (1,), 0, ("a",), POPPED), 4)

    def test_failed_roads(self):
        for failed, wanted in (((), None), ((1,), None), ((1, 3), 1), ((0, 1, 3), 1), ((1, 2, 3), None)):
            self.assertEqual(fewest_steps(NET, failed, 0, ("a",), ("house", 0)), wanted, failed)


class ManySteps(Holding):
    def test_as_many_as_wanted(self):
        for number in (*range(1, 130), 999, 1000, 1533, 1999, 2000):
            net = doubling_net(number)
            self.assertEqual(fewest_steps(net, (), 0, ("a",), POPPED), number)
            self.assertEqual(len(fewest_way(net, (), 0, ("a",), POPPED)[1]), number)

    def test_2000_steps(self):
        self.holds(doubling_net(2000), (), 0, ("a",), POPPED)
        self.holds(doubling_net(1000), (), 0, ("a", "a"), POPPED)

    def test_more_than_2000_steps(self):
        for number in (2001, 2002, 2345, 3000):
            net = doubling_net(number)
            self.assertEqual(fewest_steps(net, (), 0, ("a",), POPPED), number)
            self.assertEqual(told_by(self, TooGreat, fewest_way, net, (), 0, ("a",), POPPED).most, 2000)
            self.assertIs(can_come(net, (), (0, ("a",)), POPPED), True)
        net = doubling_net(1000)
        self.assertEqual(fewest_steps(net, (), 0, ("a", "a", "a"), POPPED), 3000)
        told_by(self, TooGreat, fewest_way, net, (), 0, ("a", "a", "a"), POPPED)

    def test_very_many_steps(self):
        for roads in range(1, 11):
            net = ninefold_net(roads)
            number = steps_of_ninefold(roads)
            self.assertEqual(fewest_steps(net, (), 0, ("a",), POPPED), number)
            self.assertEqual(fewest_steps(net, (), 0, ("a",) * 6, POPPED), 6 * number)
            if number > 2000:
                self.assertEqual(told_by(self, TooGreat, fewest_way, net, (), 0, ("a",), POPPED).most, 2000)
            else:
                self.holds(net, (), 0, ("a",), POPPED)
        self.assertGreater(number, 10**8)

    def test_a_short_way_beside_a_long_one(self):
        net = ninefold_net(10)
        self.assertEqual(fewest_way(net, (), 0, ("all",), POPPED), ((), ()))
        self.assertEqual(len(self.holds(net, (), 0, ("a",), ("house", 0))[1]), 0)
        self.assertEqual(len(self.holds(net, (), 0, ("a",), ("heads", ((9, "a"),)))[1]), 18)

    def test_the_arguments_ahead_of_too_great(self):
        net = ninefold_net(10)
        self.assertEqual(told_by(self, BadGoal, fewest_way, net, (), 0, ("a",), ("at", 10, ())).value, ("at", 10, ()))


class AllNets(Holding):
    def question(self, seed):
        chance = random.Random(seed)
        net = (some_net, little_net, flat_net, winding_net, winding_net)[seed % 5](seed)
        failed = some_failed(chance, net) if chance.random() < 0.3 else ()
        road, shape = chance.randrange(len(net[0])), some_shape(chance, net[1], 4)
        goals = [some_goal(chance, net)]
        if seed % 5 > 2:
            # Of all heads the one that comes last, from a stack that is told.
            shape = some_word(chance, net[1], 4)
            goals = [("heads", (head,)) for head in all_heads(net)]
        goal = max(goals, key=lambda goal: fewest_steps(net, failed, road, shape, goal) or 0)
        return net, failed, road, shape, goal

    def test_the_fewest_of_all(self):
        """No parcel comes to the goal by fewer steps; if the stack that is told is not high, one does by so few."""
        numbers = []
        for seed in range(400):
            net, failed, road, shape, goal = self.question(seed)
            way = self.holds(net, failed, road, shape, goal)
            starts = [(road, stack) for stack in plain.stacks_of(net[1], shape, 4)]
            bound = 7 if way is None else min(7, len(way[1]))
            told = plain.fewest_to(net, failed, starts, goal, bound, 12)
            if way is None:
                self.assertIsNone(told)
            elif len(way[0]) <= 4 and len(way[1]) <= 7:
                self.assertEqual(told, len(way[1]))
            else:
                self.assertIn(told, (None, len(way[1])))
            numbers.append(None if way is None else len(way[1]))
        self.assertGreater(numbers.count(None), 50)
        self.assertGreater(len([number for number in numbers if number]), 80)
        self.assertGreater(len([number for number in numbers if number and number > 2]), 20)

    def test_the_six_kinds(self):
        for goal in GOALS:
            for failed in ((), (1,), (3,), (1, 3)):
                for road in range(4):
                    self.holds(NET, failed, road, ("all",), goal)
                    self.holds(NET, failed, road, ("a", "any"), goal)

    def test_can_come_tells_the_same(self):
        for seed in range(200):
            net, failed, road, shape, goal = self.question(seed)
            number = fewest_steps(net, failed, road, shape, goal)
            starts = [(road, stack) for stack in plain.stacks_of(net[1], shape, 3)]
            told = [can_come(net, failed, parcel, goal) for parcel in starts]
            if number is None:
                self.assertNotIn(True, told)
            else:
                stack = fewest_way(net, failed, road, shape, goal)[0]
                self.assertIs(can_come(net, failed, (road, stack), goal), True)


if __name__ == "__main__":
    unittest.main()
