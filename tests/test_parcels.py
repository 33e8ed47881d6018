"""Promises [12], [13] and the interface of labelroads.parcels; [0] to [4] for it."""

import inspect
import random
import unittest

from labelroads import parcels
from labelroads.errors import BadChoices, BadFailed, BadNet, BadParcel
from labelroads.nets import choices
from labelroads.parcels import head_of, is_parcel, steps, walked
from tests.samples import (
    LABELS, NET, NO_FAILED, NO_PARCELS, ROADS, ROWS, WRONG, put_at, some_failed, some_net, some_word, told_by,
)

# A net whose one road lets its labels grow without an end, and takes them off.
TOWER = (((0, 0),), ("a", "b"), (((0, ""), (((0, ("a",)),),)), ((0, "a"), (((0, ("a", "a", "a")), (0, ())),))))


class Names(unittest.TestCase):
    def test_number(self):
        self.assertEqual((parcels.MOST_STACK, parcels.MOST_STACK.__class__), (3000, int))

    def test_functions_and_their_parameters(self):
        wanted = {
            is_parcel: ["net", "value"],
            head_of: ["net", "parcel"],
            steps: ["net", "failed", "parcel"],
            walked: ["net", "failed", "parcel", "taken"],
        }
        for function, names in wanted.items():
            self.assertEqual(list(inspect.signature(function).parameters), names)
            self.assertEqual(function.__module__, "labelroads.parcels")

    def test_arguments_by_name(self):
        self.assertIs(is_parcel(value=(0, ()), net=NET), True)
        self.assertEqual(head_of(parcel=(0, ()), net=NET), (0, ""))
        self.assertEqual(steps(parcel=(2, ("a",)), failed=(), net=NET), (((0, ("b", "a")), (0, ("b", "a"))),))
        self.assertEqual(walked(taken=((1, ()),), parcel=(0, ()), failed=(), net=NET), (1, ()))


class IsParcel(unittest.TestCase):
    def test_parcels(self):
        for road in range(4):
            for stack in ((), ("a",), ("b",), ("a", "b", "b", "a")):
                self.assertIs(is_parcel(NET, (road, stack)), True)

    def test_stacks_of_0_and_3000_and_3001_labels(self):
        for many, wanted in ((0, True), (1, True), (2999, True), (3000, True), (3001, False), (30000, False)):
            self.assertIs(is_parcel(NET, (3, ("a",) * many)), wanted)

    def test_any_value(self):
        for value in NO_PARCELS:
            self.assertIs(is_parcel(NET, value), False)

    def test_a_wrong_label_anywhere(self):
        stack = ("a", "b", "a")
        for value in (*WRONG, "", "c"):
            for place in range(3):
                self.assertIs(is_parcel(NET, (0, put_at(stack, (place,), value))), False)
        self.assertIs(is_parcel(NET, (0, ("a",) * 2999 + (b"a",))), False)

    def test_of_this_net(self):
        self.assertIs(is_parcel(TOWER, (0, ("b",))), True)
        self.assertIs(is_parcel(TOWER, (1, ("b",))), False)
        self.assertIs(is_parcel((((0, 0),), ("a",), ()), (0, ("b",))), False)

    def test_no_net(self):
        self.assertEqual(told_by(self, BadNet, is_parcel, (ROADS, LABELS, None), (0, ())).place, ("rows",))
        self.assertEqual(told_by(self, BadNet, is_parcel, None, None).place, ())


class HeadOf(unittest.TestCase):
    def test_heads(self):
        self.assertEqual(head_of(NET, (0, ())), (0, ""))
        self.assertEqual(head_of(NET, (3, ("b", "a"))), (3, "b"))
        self.assertEqual(head_of(NET, (1, ("a",) * 3000)), (1, "a"))

    def test_refusals(self):
        for value in NO_PARCELS:
            self.assertIs(told_by(self, BadParcel, head_of, NET, value).value, value)
        self.assertEqual(told_by(self, BadNet, head_of, (ROADS, ("all",), ()), None).place, ("labels", 0))


class Steps(unittest.TestCase):
    def test_the_word_stands_in_the_place_of_the_top_label(self):
        self.assertEqual(steps(NET, (), (0, ("a", "b"))), (
            ((1, ("a", "a")), (1, ("a", "a", "b"))),
            ((1, ("b",)), (1, ("b", "b"))),
            ((3, ()), (3, ("b",))),
        ))

    def test_the_word_is_the_stack_if_that_was_empty(self):
        self.assertEqual(steps(NET, (), (0, ())), (((1, ()), (1, ())), ((3, ("a", "b", "a")), (3, ("a", "b", "a")))))

    def test_with_failed_roads(self):
        self.assertEqual(steps(NET, (1, 3), (0, ("a", "b"))), (((2, ()), (2, ("b",))),))
        self.assertEqual(steps(NET, (0, 1, 2, 3), (0, ("a", "b"))), ())
        self.assertEqual(steps(NET, (0,), (0, ())), steps(NET, (), (0, ())))

    def test_none(self):
        self.assertEqual(steps(NET, (), (0, ("b", "a"))), ())
        self.assertEqual(steps(NET, (), (3, ("a",))), ())
        self.assertEqual(steps(NET, (), (3, ())), ())

    def test_stacks_that_grow_beyond_3000_labels(self):
        self.assertEqual(steps(TOWER, (), (0, ("a",) * 3000)), (
            ((0, ()), (0, ("a",) * 2999)),
            ((0, ("a", "a", "a")), (0, ("a",) * 3002)),
        ))

    def test_all_nets(self):
        chance = random.Random(3)
        for seed in range(300):
            net = some_net(seed)
            failed = some_failed(chance, net)
            road, stack = chance.randrange(len(net[0])), some_word(chance, net[1], 4)
            wanted = []
            for out, word in choices(net, failed, (road, stack[0] if stack else "")):
                wanted.append(((out, word), (out, (*word, *stack[1:]))))
            told = steps(net, failed, (road, stack))
            self.assertIsInstance(told, tuple)
            self.assertEqual(list(told), wanted)
            self.assertEqual(list(told), sorted(told))

    def test_refusals(self):
        for value in NO_PARCELS:
            self.assertIs(told_by(self, BadParcel, steps, NET, (), value).value, value)
        for failed in NO_FAILED:
            self.assertIs(told_by(self, BadFailed, steps, NET, failed, None).value, failed)
            self.assertIs(told_by(self, BadFailed, steps, NET, failed, (0, ())).value, failed)
        self.assertEqual(told_by(self, BadNet, steps, (ROADS, LABELS, (None,)), None, None).place, ("rows", 0))


class Walked(unittest.TestCase):
    def bad(self, place, parcel, taken, failed=()):
        self.assertEqual(told_by(self, BadChoices, walked, NET, failed, parcel, taken).place, place)

    def test_no_choices(self):
        for parcel in ((0, ()), (3, ("a",) * 3000)):
            self.assertEqual(walked(NET, (), parcel, ()), parcel)

    def test_choices_one_after_another(self):
        way = ((1, ("a", "a")), (1, ()), (1, ()), (3, ("b",)))
        ends = ((0, ("a", "b")), (1, ("a", "a", "b")), (1, ("a", "b")), (1, ("b",)), (3, ("b",)))
        for many, end in enumerate(ends):
            self.assertEqual(walked(NET, (), ends[0], way[:many]), end)

    def test_from_and_to_an_empty_stack(self):
        self.assertEqual(walked(NET, (1, 3), (0, ()), ((2, ("b",)),)), (2, ("b",)))
        self.assertEqual(walked(TOWER, (), (0, ("a",)), ((0, ()), (0, ("a",)), (0, ()))), (0, ()))

    def test_any_height(self):
        grow = (0, ("a", "a", "a"))
        self.assertEqual(walked(TOWER, (), (0, ("a",) * 3000), (grow,) * 3000), (0, ("a",) * 9000))
        self.assertEqual(walked(TOWER, (), (0, ("a",) * 3000), ((0, ()),) * 3000), (0, ()))

    def test_all_nets(self):
        chance = random.Random(4)
        for seed in range(300):
            net = some_net(seed)
            failed = some_failed(chance, net)
            start = parcel = (chance.randrange(len(net[0])), some_word(chance, net[1], 5))
            taken = []
            while steps(net, failed, parcel) and len(taken) < 20:
                choice, parcel = chance.choice(steps(net, failed, parcel))
                taken.append(choice)
            self.assertEqual(walked(net, failed, start, tuple(taken)), parcel)

    def test_no_tuple(self):
        for taken in WRONG:
            if not isinstance(taken, tuple):
                self.bad(None, (0, ()), taken)
        for taken in ([(1, ())], "", "1", b"", {}, 0, None, True):
            self.bad(None, (0, ()), taken)

    def test_what_is_no_choice_at_all(self):
        wrong = (*WRONG, (), (1,), (1, (), ()), [1, ()], (1, []), (1, ""), (1, None), (4, ()), (-1, ()), (True, ()))
        for choice in (*wrong, ("1", ()), (None, ()), 1, (1, ("a",) * 4), (1, ("c",)), "1"):
            self.bad(0, (0, ()), (choice,))
            self.bad(1, (0, ("a", "a")), ((1, ("a", "a")), choice))
            self.bad(1, (0, ("a", "a")), ((1, ("a", "a")), choice, None))

    def test_what_cannot_be_taken(self):
        self.bad(0, (0, ()), ((2, ("b",)),))
        self.bad(0, (0, ()), ((1, ("b",)),))
        self.bad(0, (0, ("a",)), ((1, ()), (1, ())))
        self.bad(0, (0, ("a",)), ((0, ()),))
        self.bad(0, (0, ()), ((1, ()),), (1,))
        self.bad(1, (0, ()), ((3, ("a", "b", "a")), (3, ())))
        self.bad(2, (0, ("a", "b")), ((1, ("b",)), (3, ("b",)), (3, ())))

    def test_true_is_not_road_1(self):
        self.assertEqual(walked(NET, (), (0, ()), ((1, ()),)), (1, ()))
        self.bad(0, (0, ()), ((True, ()),))

    def test_behind_the_end(self):
        self.bad(0, (0, ("b",)), ((1, ()),))
        self.bad(1, (2, ("a",)), ((0, ("b", "a")), (1, ())))
        self.bad(0, (3, ()), ((3, ()),))
        self.bad(1, (0, ()), ((1, ()), (1, ())))

    def test_the_first_one_is_told(self):
        self.bad(1, (0, ()), ((1, ()), None, (True, ()), None))

    def test_refusals_in_their_order(self):
        for value in NO_PARCELS:
            self.assertIs(told_by(self, BadParcel, walked, NET, (), value, None).value, value)
            self.assertIs(told_by(self, BadParcel, walked, NET, (), value, ((1, ()),)).value, value)
        for failed in NO_FAILED:
            self.assertIs(told_by(self, BadFailed, walked, NET, failed, None, None).value, failed)
        self.assertEqual(told_by(self, BadNet, walked, (None, LABELS, ROWS), None, None, None).place, ("roads",))

    def test_the_arguments_stay_what_they_are(self):
        taken = [(1, ()), [1, []]]
        self.bad(None, (0, ()), taken)
        self.assertEqual(taken, [(1, ()), [1, []]])


if __name__ == "__main__":
    unittest.main()
