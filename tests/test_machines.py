"""Promises [20], [21], [22] and the interface of labelroads.machines."""

import random
import unittest

from labelroads.machines import can_come, is_closed, least
from labelroads.parcels import steps
from tests import plain
from tests.samples import (
    GOALS, NET, SMALL, WRONG, flat_net, little_net, places, put_at, some_failed, some_goal, some_net, some_shape,
    some_stack, some_word,
)

# The least one road can do: it lays a label twice, or takes it off, and stays what it is.
LOOP = (((0, 0),), ("a",), (((0, ""), "home"), ((0, "a"), (((0, ("a", "a")), (0, ())),))))


def some_question(seed):
    """A net, failed roads and a goal; another one for each seed, of nets of every kind."""
    chance = random.Random(seed)
    net = (some_net, little_net, little_net, flat_net)[seed % 4](seed)
    failed = some_failed(chance, net) if chance.random() < 0.4 else ()
    return chance, net, failed, some_goal(chance, net)


class Least(unittest.TestCase):
    def test_an_edge_for_each_rule(self):
        # 0 is the road, 1 is ANY, 2 is END.
        self.assertEqual(least(LOOP, (), ("home",)), ((0, "", 2), (0, "a", 0), (1, "", 2), (1, "a", 1)))
        self.assertEqual(least(LOOP, (), ("lost",)), ((0, "a", 0), (1, "", 2), (1, "a", 1)))
        self.assertEqual(least(LOOP, (0,), ("lost",)), ((0, "a", 1), (1, "", 2), (1, "a", 1)))
        self.assertEqual(least(LOOP, (), ("heads", ())), least(LOOP, (), ("home", 1)))

    def test_the_states_of_a_shape(self):
        # 3 and the states behind it stand for the items that are done.
        self.assertEqual(least(SMALL, (), ("at", 0, ())), ((0, "", 2), (3, "", 2)))
        self.assertEqual(least(SMALL, (), ("at", 0, ("a", "all"))), (
            (0, "a", 4), (3, "a", 4), (4, "", 2), (4, "a", 4), (5, "", 2),
        ))
        self.assertEqual(least(LOOP, (), ("at", 0, ("a",))), (
            (0, "a", 0), (0, "a", 4), (3, "a", 4), (4, "", 2),
        ))

    def test_a_stack_without_labels(self):
        net = (((0, 0), (0, 0)), ("a",), (((0, ""), (((1, ("a", "a")), (0, ())),)), ((1, "a"), (((1, ()),),))))
        self.assertEqual(least(net, (), ("at", 1, ())), ((0, "", 3), (1, "", 3), (1, "a", 1), (4, "", 3)))

    def test_the_six_kinds(self):
        for goal in GOALS:
            for failed in ((), (1,), (1, 3), (0, 1, 2, 3)):
                self.assertEqual(least(NET, failed, goal), plain.least_machine(NET, failed, goal), goal)

    def test_all_nets(self):
        for seed in range(240):
            chance, net, failed, goal = some_question(seed)
            machine = least(net, failed, goal)
            self.assertIsInstance(machine, tuple)
            self.assertEqual(machine, plain.least_machine(net, failed, goal))
            self.assertEqual(machine, least(net, failed, goal))

    def test_its_edges_are_in_each_closed_one(self):
        for seed in range(80):
            chance, net, failed, goal = some_question(seed)
            machine = some_closed(chance, net, failed, goal)
            self.assertLessEqual(set(least(net, failed, goal)), set(machine))


def last_state(net, goal):
    """[21]: the greatest state."""
    return len(net[0]) + 1 + (1 + len(goal[2]) if goal[0] == "at" else 0)


def some_edges(chance, net, goal, many):
    states = range(last_state(net, goal) + 1)
    return {(chance.choice(states), chance.choice(("", *net[1])), chance.choice(states)) for edge in range(many)}


def some_closed(chance, net, failed, goal):
    """A closed machine, most often not the least one."""
    edges = set(plain.least_machine(net, failed, goal)) | some_edges(chance, net, goal, chance.randint(1, 4))
    while not plain.is_closed_machine(net, failed, goal, edges):
        edges |= plain.wanted_edges(net, failed, goal, edges)
    return tuple(sorted(edges))


class IsClosed(unittest.TestCase):
    def test_the_least_one(self):
        for seed in range(150):
            chance, net, failed, goal = some_question(seed)
            self.assertIs(is_closed(net, failed, goal, least(net, failed, goal)), True)

    def test_an_edge_less(self):
        for seed in range(40):
            chance, net, failed, goal = some_question(seed)
            machine = least(net, failed, goal)
            for place in range(len(machine)):
                self.assertIs(is_closed(net, failed, goal, machine[:place] + machine[place + 1 :]), False)

    def test_closed_ones_that_are_not_the_least(self):
        greater = 0
        for seed in range(150):
            chance, net, failed, goal = some_question(seed)
            machine = some_closed(chance, net, failed, goal)
            self.assertIs(is_closed(net, failed, goal, machine), True)
            greater += machine != least(net, failed, goal)
            less = list(machine)
            less.remove(chance.choice(machine))
            wanted = plain.is_closed_machine(net, failed, goal, less)
            self.assertIs(is_closed(net, failed, goal, tuple(less)), wanted)
        self.assertGreater(greater, 100)

    def test_an_edge_more(self):
        told = []
        for seed in range(150):
            chance, net, failed, goal = some_question(seed)
            edges = set(least(net, failed, goal)) | some_edges(chance, net, goal, 1)
            told.append(is_closed(net, failed, goal, tuple(sorted(edges))))
            self.assertEqual(told[-1], plain.is_closed_machine(net, failed, goal, edges))
        self.assertGreater(told.count(True), 10)
        self.assertGreater(told.count(False), 10)

    def test_by_hand(self):
        machine = least(LOOP, (), ("home",))
        self.assertEqual(machine, ((0, "", 2), (0, "a", 0), (1, "", 2), (1, "a", 1)))
        # Edges from 0 by "a" to 1 and then on: 0 -a-> 0 -a-> 1 and 0 -a-> 1 -a-> 1 are wanted, and there.
        self.assertIs(is_closed(LOOP, (), ("home",), tuple(sorted((*machine, (0, "a", 1))))), True)
        # With 0 -a-> 2, 0 -a-> 0 -a-> 2 is there; with 2 -a-> 1 besides, 0 -a-> 2 -a-> 1 is not.
        self.assertIs(is_closed(LOOP, (), ("home",), tuple(sorted((*machine, (0, "a", 2))))), True)
        more = tuple(sorted((*machine, (0, "a", 2), (2, "a", 1))))
        self.assertIs(is_closed(LOOP, (), ("home",), more), False)

    def test_the_sign_of_the_end_leads_anywhere(self):
        net = (((0, 0), (0, 0)), ("a",), (((0, ""), (((1, ()),),)),))
        machine = least(net, (), ("home",))
        self.assertEqual(machine, ((2, "", 3), (2, "a", 2)))
        more = ((1, "", 0), *machine)
        self.assertIs(is_closed(net, (), ("home",), more), False)
        self.assertIs(is_closed(net, (), ("home",), ((0, "", 0), *more)), True)

    def test_out_of_order(self):
        for seed in range(40):
            chance, net, failed, goal = some_question(seed)
            machine = least(net, failed, goal)
            for place in range(len(machine) - 1):
                first, second = machine[place : place + 2]
                swapped = (*machine[:place], second, first, *machine[place + 2 :])
                doubled = (*machine[:place], first, first, *machine[place + 1 :])
                self.assertIs(is_closed(net, failed, goal, swapped), False)
                self.assertIs(is_closed(net, failed, goal, doubled), False)

    def test_no_state_and_no_sign(self):
        for goal in GOALS:
            machine = least(NET, (), goal)
            last = last_state(NET, goal)
            self.assertIs(is_closed(NET, (), goal, machine), True)
            no_states = ((last + 1, "a", 0), (0, "a", last + 1), (-1, "a", 0), (0, "a", -1))
            for edge in (*no_states, (0, "c", 0), (0, "all", 0)):
                self.assertIs(is_closed(NET, (), goal, tuple(sorted((*machine, edge)))), False, (goal, edge))
            for edge in ((last, "b", last), (last, "a", 0)):
                more = tuple(sorted({*machine, edge}))
                self.assertIs(is_closed(NET, (), goal, more), plain.is_closed_machine(NET, (), goal, more))

    def test_edges_of_two_and_four_items(self):
        for goal in GOALS:
            machine = least(NET, (), goal)
            for edge in ((99, "a"), (99,), (0, "a", 0, 0), (), (0, "", 5, "")):
                self.assertIs(is_closed(NET, (), goal, (edge,)), False)
                self.assertIs(is_closed(NET, (), goal, tuple(sorted((*machine, edge)))), False)
            more = tuple((*edge, 0) for edge in machine)
            self.assertIs(is_closed(NET, (), goal, more), False)
            self.assertIs(is_closed(NET, (), goal, tuple(edge[:2] for edge in machine)), False)

    def test_the_state_after_all_items(self):
        machine = least(NET, (), ("at", 0, ("a",)))
        more = tuple(sorted((*machine, (7, "a", 7))))
        self.assertIs(is_closed(NET, (), ("at", 0, ("a",)), more), True)
        less = tuple(sorted((*least(NET, (), ("at", 0, ())), (7, "a", 7))))
        self.assertIs(is_closed(NET, (), ("at", 0, ()), less), False)

    def test_a_wrong_value_in_each_place(self):
        for goal in GOALS:
            machine = least(NET, (), goal)
            for path in places(machine):
                for value in (*WRONG, "c", "any", 99):
                    self.assertIs(is_closed(NET, (), goal, put_at(machine, path, value)), False)

    def test_any_value(self):
        for goal in GOALS:
            machine = least(NET, (), goal)
            for value in (*WRONG, (), list(machine), machine[0], "", 0, (0, "a"), tuple(map(list, machine)), dict):
                self.assertIs(is_closed(NET, (), goal, value), False)
        machine = least(SMALL, (), ("home",))
        self.assertEqual(machine, ((1, "", 2), (1, "a", 1)))
        for value in (((True, "", 2), (1, "a", 1)), ((1, "", 2), (1, "a", True)), [(1, "", 2), (1, "a", 1)]):
            self.assertIs(is_closed(SMALL, (), ("home",), value), False)

    def test_of_this_goal_and_these_failed_roads(self):
        self.assertIs(is_closed(LOOP, (0,), ("home",), least(LOOP, (), ("home",))), True)
        self.assertIs(is_closed(LOOP, (), ("home",), least(LOOP, (0,), ("home",))), False)
        self.assertIs(is_closed(LOOP, (), ("lost",), least(LOOP, (), ("home",))), True)
        self.assertIs(is_closed(LOOP, (), ("home",), least(LOOP, (), ("lost",))), False)


class CanCome(unittest.TestCase):
    def test_a_goal_that_has_come_at_once(self):
        self.assertIs(can_come(NET, (), (0, ("b", "a")), ("home",)), True)
        self.assertIs(can_come(NET, (), (3, ("a",)), ("lost",)), True)
        self.assertIs(can_come(NET, (), (3, ()), ("home", 2)), True)
        self.assertIs(can_come(NET, (), (2, ("b",)), ("house", 0)), True)
        self.assertIs(can_come(NET, (), (2, ()), ("heads", ((2, ""),))), True)
        self.assertIs(can_come(NET, (), (2, ()), ("at", 2, ())), True)
        self.assertIs(can_come(NET, (), (2, ("a", "b")), ("at", 2, ("all", "b"))), True)

    def test_home_and_home_at_a_house(self):
        parcel = (0, ("b",))
        self.assertEqual([house for house in range(8) if can_come(NET, (), parcel, ("home", house))], [1])
        self.assertIs(can_come(NET, (), parcel, ("home",)), True)
        self.assertEqual([house for house in range(8) if can_come(NET, (), parcel, ("house", house))], [1])
        self.assertIs(can_come(NET, (), (1, ("a",)), ("home",)), False)
        self.assertIs(can_come(NET, (), (1, ("a",)), ("house", 1)), True)

    def test_no_heads(self):
        for parcel in ((0, ()), (0, ("a", "b")), (3, ())):
            self.assertIs(can_come(NET, (), parcel, ("heads", ())), False)

    def test_labels_come_to_light(self):
        net = (((0, 0), (0, 1)), ("a", "b"), (((0, "a"), (((0, ()),),)), ((0, "b"), (((1, ("b",)),),))))
        for many in (0, 1, 2999):
            parcel = (0, (*("a",) * many, "b"))
            self.assertIs(can_come(net, (), parcel, ("house", 1)), True)
            self.assertIs(can_come(net, (), parcel, ("at", 1, ("b",))), True)
            self.assertIs(can_come(net, (), parcel, ("at", 1, ())), False)
            self.assertIs(can_come(net, (1,), parcel, ("house", 1)), False)
            self.assertIs(can_come(net, (1,), parcel, ("lost",)), True)
        self.assertIs(can_come(net, (), (0, ("a",) * 3000), ("house", 1)), False)

    def test_stacks_that_grow(self):
        net = (((0, 0),), ("a", "b"), (((0, "a"), (((0, ("a", "b")), (0, ())),)), ((0, "b"), (((0, ("b",)),),))))
        self.assertIs(can_come(net, (), (0, ("a",)), ("at", 0, ("b",) * 6)), True)
        self.assertIs(can_come(net, (), (0, ("a",)), ("at", 0, ("a", "b", "b", "all"))), True)
        self.assertIs(can_come(net, (), (0, ("a",)), ("at", 0, ("all", "b", "a"))), False)
        self.assertIs(can_come(net, (), (0, ("a",)), ("at", 0, ("all", "a", "all", "b"))), True)

    def test_roads_that_fail(self):
        wanted = {(): False, (1,): False, (3,): False, (1, 3): True, (0, 1, 3): True}
        for failed, told in wanted.items():
            self.assertIs(can_come(NET, failed, (0, ("a",)), ("house", 0)), told, failed)

    def test_flat_nets(self):
        told = []
        for seed in range(250):
            chance = random.Random(seed)
            net = flat_net(seed)
            failed = some_failed(chance, net) if seed % 3 == 0 else ()
            parcel = (chance.randrange(len(net[0])), some_word(chance, net[1], 4))
            goal = some_goal(chance, net)
            wanted = plain.fewest_to(net, failed, [parcel], goal, 10000, 10000) is not None
            told.append(can_come(net, failed, parcel, goal))
            self.assertEqual(told[-1], wanted, (net, failed, parcel, goal))
        self.assertGreater(told.count(True), 70)
        self.assertGreater(told.count(False), 70)

    def test_all_nets(self):
        told = []
        for seed in range(250):
            chance, net, failed, goal = some_question(seed)
            parcel = (chance.randrange(len(net[0])), some_stack(chance, net[1], some_shape(chance, net[1])))
            told.append(can_come(net, failed, parcel, goal))
            self.assertEqual(told[-1], plain.accepts(net, least(net, failed, goal), parcel))
            self.assertEqual(told[-1], told[-1] or plain.fewest_to(net, failed, [parcel], goal, 6, 10) is not None)
            behind = [can_come(net, failed, other, goal) for choice, other in steps(net, failed, parcel)]
            self.assertEqual(told[-1], plain.has_come(net, failed, goal, parcel) or any(behind))
        self.assertGreater(told.count(True), 70)
        self.assertGreater(told.count(False), 70)


if __name__ == "__main__":
    unittest.main()
