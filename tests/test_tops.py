"""Promises [30], [31], [32] and the interface of labelroads.tops."""

import random
import unittest

from labelroads.errors import BadFailed, BadGoal, BadNet, BadParcel
from labelroads.machines import can_come
from labelroads.tops import comes_by_heads, heads_from, links, pop_steps, pops
from tests import plain
from tests.samples import (
    GOALS, NET, NO_GOALS, NO_PARCELS, SMALL, doubling_net, flat_net, little_net, ninefold_net, some_failed, some_goal,
    some_net, some_word, steps_of_ninefold, told_by, winding_net,
)

# The label a is popped off by one step or by three; b goes on for ever, or lays labels; c comes to no end.
CLIMBING = (((0, 0), (0, 0)), ("c", "b", "a"), (
    ((0, ""), (((1, ()), (0, ("a", "b"))),)),
    ((0, "a"), (((0, ("b", "b")), (1, ())),)),
    ((0, "b"), (((0, ()),),)),
    ((0, "c"), (((0, ("c",)), (0, ("a", "c", "a"))),)),
    ((1, ""), "home"),
))


def some_case(seed):
    """A net, failed roads and a parcel; another one for each seed, of nets of every kind."""
    chance = random.Random(seed)
    net = (some_net, little_net, flat_net, winding_net)[seed % 4](seed)
    failed = some_failed(chance, net) if chance.random() < 0.3 else ()
    return chance, net, failed, (chance.randrange(len(net[0])), some_word(chance, net[1], 5))


class Pops(unittest.TestCase):
    def test_by_hand(self):
        self.assertEqual(pops(CLIMBING, ()), ((0, "a", 0), (0, "a", 1), (0, "b", 0)))
        self.assertEqual(pop_steps(CLIMBING, ()), {(0, "a", 0): 3, (0, "a", 1): 1, (0, "b", 0): 1})

    def test_the_empty_word(self):
        net = (((0, 0), (0, 1)), ("a",), (((0, "a"), (((1, ()),),)),))
        self.assertEqual(pops(net, ()), ((0, "a", 1),))
        self.assertEqual(pops(net, (1,)), ())
        self.assertEqual(pops(SMALL, ()), ())
        self.assertEqual(pop_steps(SMALL, ()), {})

    def test_what_is_laid_on_a_stack_without_labels_is_no_pop(self):
        net = (((0, 0),), ("a",), (((0, ""), (((0, ()),),)), ((0, "a"), (((0, ("a",)),),))))
        self.assertEqual(pops(net, ()), ())

    def test_no_step_from_an_empty_stack_helps(self):
        # The first of two labels is popped off to road 1; from there (1, ()) leads back, but (1, ("a",)) does not.
        net = (((0, 0), (0, 0)), ("a",), (((0, "a"), (((1, ()),),)), ((1, ""), (((0, ()),),))))
        self.assertEqual(pops(net, ()), ((0, "a", 1),))

    def test_failed_roads(self):
        self.assertEqual(pops(CLIMBING, (0,)), ((0, "a", 1),))
        self.assertEqual(pops(CLIMBING, (1,)), ((0, "a", 0), (0, "b", 0)))
        self.assertEqual(pops(CLIMBING, (0, 1)), ())

    def test_very_many_steps(self):
        for number in (1, 2, 3, 4, 5, 100, 2000, 2001):
            self.assertEqual(pop_steps(doubling_net(number), ())[(0, "a", 0)], number)
        for roads in range(1, 11):
            net = ninefold_net(roads)
            self.assertEqual(pop_steps(net, ())[(0, "a", 0)], steps_of_ninefold(roads))

    def test_the_fewest_steps_of_several_ways(self):
        groups = (((0, ("b", "b", "b")), (0, ("c",)), (0, ("b",))),)
        net = (((0, 0),), ("a", "b", "c"), (
            ((0, "a"), groups), ((0, "b"), (((0, ()),),)), ((0, "c"), (((0, ("b", "b")),),)),
        ))
        self.assertEqual(pop_steps(net, ()), {(0, "a", 0): 2, (0, "b", 0): 1, (0, "c", 0): 3})

    def test_fewer_steps_that_are_found_later(self):
        rows = (((0, "a"), (((0, ("b",)),),)), ((0, "b"), (((0, ("c", "c")), (1, ("d",))),)), ((0, "c"), (((0, ()),),)))
        net = (((0, 0), (0, 0)), ("a", "b", "c", "d"), (*rows, ((1, "d"), (((0, ()),),))))
        self.assertEqual(pop_steps(net, ()), {(0, "a", 0): 3, (0, "b", 0): 2, (0, "c", 0): 1, (1, "d", 0): 1})
        self.assertEqual(pop_steps(net, (1,)), {(0, "a", 0): 4, (0, "b", 0): 3, (0, "c", 0): 1, (1, "d", 0): 1})

    def test_all_nets(self):
        many = 0
        for seed in range(300):
            chance, net, failed, parcel = some_case(seed)
            told = pops(net, failed)
            self.assertIsInstance(told, tuple)
            self.assertEqual(list(told), sorted(plain.all_pops(net, failed)))
            self.assertEqual(list(pop_steps(net, failed)), list(told))
            many += len(told)
        self.assertGreater(many, 500)

    def test_steps_lead_from_a_lone_label_to_an_empty_stack(self):
        numbers = []
        for seed in range(200):
            chance, net, failed, parcel = some_case(seed)
            told = pop_steps(net, failed)
            for road, label in [head for head in plain.heads_of(net) if head[1]]:
                ends = plain.fewest_pops(net, failed, road, label, 6, 10)
                for end in range(len(net[0])):
                    number = told.get((road, label, end))
                    numbers.append(number)
                    if end in ends:
                        self.assertEqual(number, ends[end])
                    else:
                        self.assertTrue(number is None or number > 6)
        self.assertGreater(len([number for number in numbers if number and 1 < number < 7]), 80)

    def test_flat_nets(self):
        for seed in range(150):
            net = flat_net(seed)
            told = pop_steps(net, ())
            wanted = {}
            for road, label in [head for head in plain.heads_of(net) if head[1]]:
                for end, number in plain.fewest_pops(net, (), road, label, 100, 100).items():
                    wanted[(road, label, end)] = number
            self.assertEqual(told, wanted)

    def test_a_new_dict_each_time(self):
        told = pop_steps(CLIMBING, ())
        told.clear()
        self.assertEqual(len(pop_steps(CLIMBING, ())), 3)


class Links(unittest.TestCase):
    def test_by_hand(self):
        self.assertEqual(links(CLIMBING, ()), (
            ((0, ""), (0, ""), 0),
            ((0, ""), (0, "a"), 1),
            ((0, ""), (0, "b"), 0),
            ((0, ""), (1, ""), 0),
            ((0, ""), (1, "b"), 0),
            ((0, "a"), (0, "b"), 0),
            ((0, "a"), (0, "b"), 1),
            ((0, "c"), (0, "a"), 2),
            ((0, "c"), (0, "c"), 0),
            ((0, "c"), (0, "c"), 1),
            ((0, "c"), (1, "c"), 1),
        ))

    def test_none(self):
        self.assertEqual(links(SMALL, ()), ())
        self.assertEqual(links(CLIMBING, (0, 1)), ())
        net = (((0, 0),), ("a",), (((0, ""), "home"), ((0, "a"), (((0, ()),),))))
        self.assertEqual(links(net, ()), ())

    def test_heads_without_labels(self):
        net = (((0, 0),), ("a", "b"), (((0, ""), (((0, ()), (0, ("a", "b", "a"))),)), ((0, "a"), (((0, ()),),))))
        empty = ((0, ""), (0, ""), 0)
        self.assertEqual(links(net, ()), (empty, ((0, ""), (0, "a"), 2), ((0, ""), (0, "b"), 1)))
        net = (net[0], net[1], (*net[2], ((0, "b"), (((0, ("a",)),),))))
        self.assertEqual(links(net, ()), (
            empty, ((0, ""), (0, "a"), 0), ((0, ""), (0, "a"), 2), ((0, ""), (0, "b"), 1), ((0, "b"), (0, "a"), 0),
        ))

    def test_a_word_that_is_popped_off_is_no_link_of_a_label(self):
        net = (((0, 0), (0, 0)), ("a",), (((0, "a"), (((1, ("a",)),),)), ((1, "a"), (((0, ()),),))))
        self.assertEqual(links(net, ()), (((0, "a"), (1, "a"), 0),))

    def test_the_same_link_by_two_choices_once(self):
        net = (((0, 0),), ("a", "b"), (((0, "a"), (((0, ("b", "b", "a")), (0, ("b", "a", "b"))),)),))
        self.assertEqual(links(net, ()), (((0, "a"), (0, "b"), 2),))

    def test_failed_roads(self):
        self.assertEqual(links(CLIMBING, (0,)), (((0, ""), (1, ""), 0),))
        self.assertEqual(links(CLIMBING, (1,)), tuple(link for link in links(CLIMBING, ()) if link[1][0] == 0))

    def test_all_nets(self):
        many = 0
        for seed in range(300):
            chance, net, failed, parcel = some_case(seed)
            told = links(net, failed)
            self.assertIsInstance(told, tuple)
            self.assertEqual(list(told), sorted(plain.all_links(net, failed, plain.all_pops(net, failed))))
            many += len(told)
        self.assertGreater(many, 1000)


class HeadsFrom(unittest.TestCase):
    def test_by_hand(self):
        self.assertEqual(heads_from(CLIMBING, (), (1, ())), ((1, ""),))
        self.assertEqual(heads_from(CLIMBING, (), (1, ("a", "b"))), ((1, "a"),))
        self.assertEqual(heads_from(CLIMBING, (), (0, ("b",))), ((0, ""), (0, "a"), (0, "b"), (1, ""), (1, "b")))
        self.assertEqual(heads_from(CLIMBING, (), (0, ("c", "b"))), ((0, "a"), (0, "b"), (0, "c"), (1, "c")))
        self.assertEqual(heads_from(CLIMBING, (0,), (0, ("a", "b"))), ((0, "a"), (1, "b")))
        self.assertEqual(heads_from(CLIMBING, (0, 1), (0, ("a", "b"))), ((0, "a"),))

    def test_without_labels(self):
        self.assertEqual(heads_from(SMALL, (), (0, ())), ((0, ""),))
        self.assertEqual(heads_from(CLIMBING, (1,), (0, ())), ((0, ""), (0, "a"), (0, "b")))

    def test_heads_without_a_row(self):
        self.assertEqual(heads_from(NET, (), (3, ("a", "b"))), ((3, "a"),))
        self.assertEqual(heads_from(NET, (), (2, ("b",))), ((2, "b"),))

    def test_stacks_of_3000_labels(self):
        net = (((0, 0), (0, 0)), ("a", "b"), (((0, "a"), (((0, ()),),)), ((0, "b"), (((1, ()),),))))
        self.assertEqual(heads_from(net, (), (0, ("a",) * 3000)), ((0, ""), (0, "a")))
        self.assertEqual(heads_from(net, (), (0, ("a",) * 2999 + ("b",))), ((0, "a"), (0, "b"), (1, "")))
        self.assertEqual(heads_from(net, (), (0, ("b",) + ("a",) * 2999)), ((0, "b"), (1, "a")))

    def test_all_nets(self):
        many = 0
        for seed in range(300):
            chance, net, failed, parcel = some_case(seed)
            told = heads_from(net, failed, parcel)
            self.assertIsInstance(told, tuple)
            self.assertEqual(list(told), sorted(plain.heads_that_come(net, failed, parcel)))
            many += len(told)
        self.assertGreater(many, 500)

    def test_they_are_the_heads_of_all_parcels_that_come(self):
        for seed in range(200):
            chance, net, failed, parcel = some_case(seed)
            near = {plain.head_of_parcel(other) for other in plain.walk_all(net, failed, [parcel], 6, 12)}
            self.assertLessEqual(near, set(heads_from(net, failed, parcel)))
        for seed in range(150):
            net = flat_net(seed)
            parcel = (0, some_word(random.Random(seed), net[1], 5))
            wanted = {plain.head_of_parcel(other) for other in plain.walk_all(net, (), [parcel], 10000, 10000)}
            self.assertEqual(heads_from(net, (), parcel), tuple(sorted(wanted)))


class ComesByHeads(unittest.TestCase):
    def test_by_hand(self):
        self.assertIs(comes_by_heads(CLIMBING, (), (0, ("b",)), ("home",)), True)
        self.assertIs(comes_by_heads(CLIMBING, (), (0, ("b",)), ("home", 0)), True)
        self.assertIs(comes_by_heads(CLIMBING, (), (0, ("b",)), ("home", 1)), False)
        self.assertIs(comes_by_heads(CLIMBING, (), (0, ("c", "a")), ("home",)), False)
        self.assertIs(comes_by_heads(CLIMBING, (), (0, ("c", "a")), ("lost",)), True)
        self.assertIs(comes_by_heads(CLIMBING, (), (1, ()), ("house", 0)), True)
        self.assertIs(comes_by_heads(CLIMBING, (), (1, ()), ("heads", ((0, "a"), (1, "")))), True)
        self.assertIs(comes_by_heads(CLIMBING, (), (1, ()), ("heads", ())), False)

    def test_it_tells_the_same_as_can_come(self):
        told = []
        for seed in range(300):
            chance, net, failed, parcel = some_case(seed)
            for goal in (some_goal(chance, net), some_goal(chance, net), ("home",), ("lost",)):
                if goal[0] != "at":
                    told.append(comes_by_heads(net, failed, parcel, goal))
                    self.assertIs(told[-1], can_come(net, failed, parcel, goal), (net, failed, parcel, goal))
        self.assertGreater(told.count(True), 250)
        self.assertGreater(told.count(False), 250)

    def test_the_six_kinds(self):
        for goal in GOALS:
            for road in range(4):
                for stack in ((), ("a",), ("b", "a"), ("a", "a", "b")):
                    if goal[0] != "at":
                        wanted = can_come(NET, (), (road, stack), goal)
                        self.assertIs(comes_by_heads(NET, (), (road, stack), goal), wanted)

    def test_goals_at_a_road_are_refused(self):
        for goal in (("at", 0, ()), ("at", 1, ("all", "a")), ("at", 3, ("all",) * 6), *NO_GOALS):
            self.assertIs(told_by(self, BadGoal, comes_by_heads, NET, (), (0, ("a",)), goal).value, goal)
            self.assertIs(told_by(self, BadGoal, comes_by_heads, SMALL, (), (0, ()), goal).value, goal)

    def test_they_are_refused_behind_the_parcel(self):
        for parcel in NO_PARCELS:
            for goal in (("at", 0, ()), None):
                self.assertIs(told_by(self, BadParcel, comes_by_heads, NET, (), parcel, goal).value, parcel)
        self.assertEqual(told_by(self, BadFailed, comes_by_heads, NET, (9,), None, ("at", 0, ())).value, (9,))
        self.assertEqual(told_by(self, BadNet, comes_by_heads, None, (9,), None, ("at", 0, ())).place, ())


if __name__ == "__main__":
    unittest.main()
