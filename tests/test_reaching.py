"""Promise [23] and the interface of labelroads.reaching."""

import random
import unittest

from labelroads.errors import BadPaper, TooGreat
from labelroads.machines import is_closed, least
from labelroads.nets import failures
from labelroads.parcels import walked
from labelroads.reaching import can, check, paper
from labelroads.weights import fewest_steps
from tests import plain
from tests.samples import (
    GOALS, NET, NO_FAILED, ROADS, WRONG, Agreeing, Breaking, doubling_net, flat_net, little_net, ninefold_net, places,
    put_at, some_goal, some_net, some_shape, some_word, told_by, winding_net,
)

POPPED = ("at", 0, ())
HOUSE_0 = ("house", 0)
# That parcels on road 0 come to house 0 needs two failed roads.
QUESTION = (NET, 2, 0, ("a", "any"), HOUSE_0)
WAY = ("way", (1, 3), ("a", "b"), ((2, ()),))


def some_question(seed):
    chance = random.Random(seed)
    net = (some_net, little_net, flat_net, winding_net)[seed % 4](seed)
    most = chance.choice((0, 1, 1, 2))
    road = chance.randrange(len(net[0]))
    shape = some_word(chance, net[1], 3) if chance.random() < 0.5 else some_shape(chance, net[1], 4)
    return net, most, road, shape, some_goal(chance, net)


class Can(unittest.TestCase):
    def test_roads_that_fail(self):
        for shape in (("a",), ("a", "all"), ("a", "b", "b")):
            told = [can(NET, most, 0, shape, HOUSE_0) for most in range(3)]
            self.assertEqual(told, [False, False, True])
        self.assertEqual([can(NET, most, 2, ("a",), ("lost",)) for most in range(3)], [False, True, True])
        self.assertEqual([can(NET, most, 0, ("b",), ("home",)) for most in range(3)], [True, True, True])
        self.assertEqual([can(NET, most, 0, ("b",), ("home", 2)) for most in range(3)], [False, False, False])

    def test_a_failed_road_can_be_what_a_goal_waits_for_or_forbids(self):
        self.assertEqual([can(NET, most, 0, (), ("house", 2)) for most in range(3)], [True, True, True])
        net = (((0, 0), (0, 1)), ("a",), (((0, "a"), (((0, ("a",)),), ((1, ()),))),))
        self.assertEqual([can(net, most, 0, ("a",), ("house", 1)) for most in range(3)], [False, True, True])
        self.assertEqual([can(net, most, 0, ("a",), ("lost",)) for most in range(3)], [False, True, True])
        self.assertEqual([can(net, most, 0, ("a",), ("heads", ((0, "a"),))) for most in range(3)], [True, True, True])

    def test_all_nets(self):
        told = []
        for seed in range(250):
            net, most, road, shape, goal = some_question(seed)
            wanted = [fewest_steps(net, failed, road, shape, goal) for failed in failures(net, most)]
            told.append(can(net, most, road, shape, goal))
            self.assertIs(told[-1], any(number is not None for number in wanted))
        self.assertGreater(told.count(True), 70)
        self.assertGreater(told.count(False), 70)


class Paper(unittest.TestCase):
    def test_a_way(self):
        self.assertEqual(paper(NET, 2, 0, ("a", "b"), HOUSE_0), WAY)
        self.assertEqual(paper(NET, 2, 0, ("b",), ("home",)), ("way", (), ("b",), ()))

    def test_never(self):
        machines = tuple(least(NET, failed, HOUSE_0) for failed in failures(NET, 1))
        self.assertEqual(len(machines), 5)
        self.assertEqual(paper(NET, 1, 0, ("a", "any"), HOUSE_0), ("never", machines))
        self.assertEqual(paper(NET, 0, 0, ("a", "any"), HOUSE_0), ("never", machines[:1]))

    def test_the_first_set_though_a_later_one_needs_fewer_steps(self):
        groups = (((0, ("b", "b")),), ((1, ()),))
        net = (((0, 0), (0, 1)), ("a", "b"), (((0, "a"), groups), ((0, "b"), (((1, ()), (0, ())),))))
        goal = ("house", 1)
        self.assertEqual(paper(net, 2, 0, ("a",), goal), ("way", (), ("a",), ((0, ("b", "b")), (1, ()))))
        self.assertEqual(fewest_steps(net, (0,), 0, ("a",), goal), 1)

    def test_the_sets_by_their_sizes(self):
        # Road 2 alone lets the parcel go on to road 3, or roads 0 and 1 together.
        groups = (((2, ()), (0, ()), (1, ()))[:1], ((3, ()),))
        net = (((0, 0), (0, 0), (0, 0), (0, 1)), ("a", "b"), (
            ((0, "a"), groups), ((0, "b"), (((0, ("b",)), (1, ("b",))), ((3, ()),))),
        ))
        self.assertEqual(paper(net, 2, 0, ("a",), ("house", 1)), ("way", (2,), ("a",), ((3, ()),)))
        self.assertEqual(paper(net, 2, 0, ("b",), ("house", 1)), ("way", (0, 1), ("b",), ((3, ()),)))
        word, failed, stack, taken = paper(net, 2, 0, ("any",), ("house", 1))
        self.assertEqual((word, failed, stack, taken), ("way", (2,), ("a",), ((3, ()),)))

    def test_all_nets(self):
        words = []
        for seed in range(250):
            net, most, road, shape, goal = question = some_question(seed)
            told = paper(*question)
            words.append(told[0])
            self.assertEqual(told[0] == "way", can(*question))
            self.assertEqual(told, paper(*question))
            sets = failures(net, most)
            numbers = [fewest_steps(net, failed, road, shape, goal) for failed in sets]
            if told[0] == "way":
                word, failed, stack, taken = told
                first = [number is not None for number in numbers].index(True)
                self.assertEqual((failed, len(taken)), (sets[first], numbers[first]))
                self.assertTrue(plain.cuts(shape, stack))
                self.assertTrue(plain.has_come(net, failed, goal, walked(net, failed, (road, stack), taken)))
            else:
                self.assertEqual(told, ("never", tuple(least(net, failed, goal) for failed in sets)))
        self.assertGreater(words.count("way"), 70)
        self.assertGreater(words.count("never"), 70)

    def test_very_many_steps(self):
        for number in (1, 60, 1999, 2000):
            net = doubling_net(number)
            told = paper(net, 0, 0, ("a",), POPPED)
            self.assertEqual((told[:3], len(told[3])), (("way", (), ("a",)), number))
            self.assertEqual(check(net, 0, 0, ("a",), POPPED, told), "way")

    def test_too_great(self):
        for net in (doubling_net(2001), doubling_net(2002), ninefold_net(5), ninefold_net(10)):
            for most in (0, 1):
                self.assertIs(can(net, most, 0, ("a",), POPPED), True)
                self.assertEqual(told_by(self, TooGreat, paper, net, most, 0, ("a",), POPPED).most, 2000)

    def test_too_great_though_a_later_set_needs_few(self):
        roads, labels, rows = ninefold_net(5)
        rows = tuple((head, (*groups, ((0, ()),)) if head == (0, "b") else groups) for head, groups in rows)
        net = (roads, labels, rows)
        self.assertEqual(fewest_steps(net, (1,), 0, ("b",), POPPED), 1)
        told_by(self, TooGreat, paper, net, 1, 0, ("b",), POPPED)
        self.assertEqual(check(net, 1, 0, ("b",), POPPED, ("way", (1,), ("b",), ((0, ()),))), "way")
        self.assertEqual(paper(net, 1, 0, ("all",), POPPED), ("way", (), (), ()))


class Check(unittest.TestCase):
    def good(self, question, value):
        self.assertEqual(check(*question, value), value[0])

    def bad(self, question, value, word):
        self.assertEqual(told_by(self, BadPaper, check, *question, value).word, word)

    def test_what_paper_tells(self):
        for seed in range(250):
            question = some_question(seed)
            self.good(question, paper(*question))

    def test_no_form(self):
        values = (
            *WRONG, "way", "never", (), ("way",), ("never",), ("way", (), ()), ("way", (), (), (), ()),
            ("never", (), ()), ("way", ()), ("never", (), (), ()), list(WAY), {"way": 1}, ("Way", (), (), ()),
            (b"way", (), (), ()), ("ways", (), (), ()), (None, ()), ((), "never"), ((), "way", (), ()), ("", ()),
            (Agreeing(), (), (), ()), (Breaking(), ()), ("never", (), (), (), ()), ("ever", (), ()), WAY[::-1],
            ["never", ()], (("never",), ()), ("neve", ()), "ny", "wayy",
        )
        for value in values:
            self.bad(QUESTION, value, "form")

    def test_a_good_way(self):
        self.good(QUESTION, WAY)
        self.good(QUESTION, ("way", (1, 3), ("a", "a"), ((2, ()),)))
        self.good((NET, 1, 3, ("any",), ("lost",)), ("way", (), ("a",), ()))
        self.good((NET, 1, 3, ("any",), ("lost",)), ("way", (2,), ("b",), ()))

    def test_ways_that_are_not_the_shortest(self):
        question = (NET, 0, 0, ("all",), ("house", 1))
        self.good(question, ("way", (), ("a",), ()))
        self.good(question, ("way", (), ("a", "b"), ((1, ("a", "a")), (1, ()))))
        self.good(question, ("way", (), ("a", "a"), ((1, ("a", "a")), (1, ()), (1, ()), (1, ()))))

    def test_what_comes_on_the_way_but_not_at_its_end(self):
        question = (NET, 0, 0, (), ("house", 1))
        self.good(question, ("way", (), (), ((1, ()),)))
        self.bad(question, ("way", (), (), ((3, ("a", "b", "a")),)), "way")
        self.bad((NET, 2, 0, ("a", "any"), ("heads", ((0, "a"),))), WAY, "way")

    def test_wrong_failed_roads_of_a_way(self):
        for failed in (*NO_FAILED, (), (1,), (3,), (0, 1), (0, 1, 3), (1, 2, 3)):
            self.bad(QUESTION, ("way", failed, *WAY[2:]), "way")
        for failed in (*NO_FAILED, (5,), (0, 4), (0, 6), (0, 1, 3), (1, 2, 3)):
            self.bad((NET, 2, 0, ("b",), ("home",)), ("way", failed, ("b",), ()), "way")
        self.bad((NET, 1, *QUESTION[2:]), WAY, "way")
        self.bad((NET, 0, *QUESTION[2:]), WAY, "way")
        self.bad((NET, 1, 0, ("b",), ("home",)), ("way", (1, 2), ("b",), ()), "way")
        self.good((NET, 2, 0, ("b",), ("home",)), ("way", (1, 2), ("b",), ()))

    def test_a_wrong_stack_of_a_way(self):
        for stack in (*WRONG, (), ("a",), ("b", "a"), ("a", "b", "b"), ("a", "c"), ["a", "b"], "ab", ("a", "any"), "a"):
            self.bad(QUESTION, ("way", (1, 3), stack, ((2, ()),)), "way")

    def test_stacks_of_any_height(self):
        question = (NET, 2, 0, ("a", "all"), HOUSE_0)
        for many in (0, 2999, 3000, 30000):
            self.good(question, ("way", (1, 3), ("a", *("b",) * many), ((2, ()),)))
        self.bad(question, ("way", (1, 3), ("a", *("b",) * 3000, "c"), ((2, ()),)), "way")
        question = (NET, 0, 3, ("all",), ("at", 3, ("all", "b")))
        self.good(question, ("way", (), ("a",) * 4000 + ("b",), ()))
        self.bad(question, ("way", (), ("a",) * 4000, ()), "way")

    def test_wrong_choices_of_a_way(self):
        wrong = (
            *WRONG, (), ((2, ()), (0, ())), ((1, ()),), ((2, ("a",)),), ((3, ()),), (2, ()), [(2, ())], ((2, []),),
            ((True, ()),), ((2, (), ()),), ((2, ()), None), (None,), ((2, ()), (2, ())),
        )
        for taken in wrong:
            self.bad(QUESTION, (*WAY[:3], taken), "way")

    def test_2000_and_2001_choices(self):
        net = (((0, 0),), ("a",), (((0, "a"), (((0, ("a",)), (0, ())),)),))
        question = (net, 0, 0, ("any",), ("at", 0, ()))
        for many in (0, 1999):
            self.good(question, ("way", (), ("a",), ((0, ("a",)),) * many + ((0, ()),)))
        self.bad(question, ("way", (), ("a",), ((0, ("a",)),) * 2000 + ((0, ()),)), "way")
        question = (net, 0, 0, ("any",), ("house", 0))
        self.good(question, ("way", (), ("a",), ((0, ("a",)),) * 2000))
        self.bad(question, ("way", (), ("a",), ((0, ("a",)),) * 2001), "way")

    def test_a_wrong_value_in_each_place_of_a_way(self):
        for path in places(WAY)[1:]:
            for value in WRONG:
                wanted = "form" if path == (0,) else "way"
                self.bad(QUESTION, put_at(WAY, path, value), wanted)

    def test_good_machines(self):
        question = (NET, 1, *QUESTION[2:])
        told = paper(*question)
        self.assertEqual((told[0], len(told[1])), ("never", 5))
        self.good(question, told)

    def test_machines_that_are_not_the_least(self):
        question = (NET, 1, *QUESTION[2:])
        machines = paper(*question)[1]
        greater = tuple(tuple(sorted({*machine, (5, "b", 4), (5, "", 0)})) for machine in machines)
        for machine, failed in zip(greater, failures(NET, 1)):
            self.assertIs(is_closed(NET, failed, HOUSE_0, machine), True)
        self.good(question, ("never", greater))
        for place in range(5):
            self.good(question, ("never", put_at(machines, (place,), greater[place])))

    def test_closed_machines_that_accept(self):
        question = (NET, 2, *QUESTION[2:])
        machines = tuple(least(NET, failed, HOUSE_0) for failed in failures(NET, 2))
        self.bad(question, ("never", machines), "never")
        question = (NET, 1, *QUESTION[2:])
        machines = paper(*question)[1]
        for place, failed in enumerate(failures(NET, 1)):
            greater = tuple(sorted({*machines[place], (0, "a", 4)}))
            self.assertIs(is_closed(NET, failed, HOUSE_0, greater), True)
            self.bad(question, ("never", put_at(machines, (place,), greater)), "never")
            self.good((NET, 1, 0, ("b",), HOUSE_0), ("never", put_at(machines, (place,), greater)))

    def test_too_few_machines_too_many_and_others(self):
        question = (NET, 1, *QUESTION[2:])
        machines = paper(*question)[1]
        for value in ((), machines[:4], (*machines, machines[0]), list(machines), machines[0], (machines,), *WRONG):
            self.bad(question, ("never", value), "never")
        self.bad((NET, 0, *QUESTION[2:]), ("never", machines), "never")
        self.assertIs(is_closed(NET, (), HOUSE_0, machines[4]), False)
        self.bad(question, ("never", (machines[4], *machines[1:4], machines[0])), "never")

    def test_machines_of_another_question(self):
        question = (NET, 0, 0, ("a",), HOUSE_0)
        machines = paper(*question)[1]
        self.bad((NET, 0, 0, ("a",), ("house", 2)), ("never", machines), "never")
        self.bad((NET, 0, 0, ("a",), POPPED), ("never", machines), "never")
        self.bad((NET, 0, 2, ("b",), HOUSE_0), ("never", machines), "never")

    def test_an_edge_more_less_and_out_of_order(self):
        question = (NET, 1, *QUESTION[2:])
        machines = paper(*question)[1]
        for place, machine in enumerate(machines):
            for number in range(len(machine)):
                less = machine[:number] + machine[number + 1 :]
                self.bad(question, ("never", put_at(machines, (place,), less)), "never")
            for edge in ((0, "a", 6), (6, "a", 0), (0, "c", 0), (-1, "", 5)):
                more = tuple(sorted((*machine, edge)))
                self.bad(question, ("never", put_at(machines, (place,), more)), "never")
            self.bad(question, ("never", put_at(machines, (place,), machine[::-1])), "never")
            self.bad(question, ("never", put_at(machines, (place,), (*machine, machine[-1]))), "never")

    def test_a_wrong_value_in_each_place_of_never(self):
        question = (NET, 0, *QUESTION[2:])
        told = paper(*question)
        for path in places(told)[1:]:
            for value in (*WRONG, 99, "c"):
                self.bad(question, put_at(told, path, value), "form" if path == (0,) else "never")

    def test_not_one_of_each_sort(self):
        for seed in range(150):
            net, most, road, shape, goal = question = some_question(seed)
            machines = tuple(least(net, failed, goal) for failed in failures(net, most))
            if can(*question):
                self.bad(question, ("never", machines), "never")
            else:
                self.good(question, ("never", machines))
                for stack in plain.stacks_of(net[1], shape, 2):
                    self.bad(question, ("way", (), stack, ()), "way")

    def test_the_six_kinds(self):
        for goal in GOALS:
            for road in range(len(ROADS)):
                for most in range(3):
                    question = (NET, most, road, ("any", "all"), goal)
                    self.good(question, paper(*question))


if __name__ == "__main__":
    unittest.main()
