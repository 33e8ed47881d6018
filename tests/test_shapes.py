"""Promise [14] and the interface of labelroads.shapes."""

import itertools
import random
import unittest

from labelroads.errors import BadNet, BadShape
from labelroads.shapes import fits, leads, may_end
from tests import plain
from tests.samples import LABELS, NET, NO_SHAPES, SMALL, WRONG, put_at, some_shape, some_stack, some_word, told_by

ITEMS = ("any", "all", *LABELS)


class Fits(unittest.TestCase):
    def fitting(self, shape, *stacks):
        for stack in stacks:
            self.assertIs(fits(NET, shape, stack), True, (shape, stack))

    def other(self, shape, *stacks):
        for stack in stacks:
            self.assertIs(fits(NET, shape, stack), False, (shape, stack))

    def test_the_empty_shape(self):
        self.fitting((), ())
        self.other((), ("a",), ("b", "b"))

    def test_a_label_stands_for_just_itself(self):
        self.fitting(("a",), ("a",))
        self.other(("a",), (), ("b",), ("a", "a"))
        self.fitting(("a", "b"), ("a", "b"))
        self.other(("a", "b"), ("b", "a"), ("a",), ("a", "b", "b"))

    def test_any_alone_doubled_and_last(self):
        self.fitting(("any",), ("a",), ("b",))
        self.other(("any",), (), ("a", "a"))
        self.fitting(("any", "any"), ("a", "b"))
        self.other(("any", "any"), ("a",), ("a", "b", "a"))
        self.fitting(("b", "any"), ("b", "b"), ("b", "a"))
        self.other(("b", "any"), ("a", "b"), ("b",))

    def test_all_alone_doubled_and_last(self):
        for shape in (("all",), ("all", "all"), ("all",) * 6):
            self.fitting(shape, (), ("a",), ("b", "a", "a"))
        self.fitting(("b", "all"), ("b",), ("b", "a", "b"))
        self.other(("b", "all"), (), ("a", "b"))
        self.fitting(("all", "b"), ("b",), ("a", "b", "a", "b"))
        self.other(("all", "b"), (), ("b", "a"))
        self.fitting(("all", "b", "all", "b"), ("b", "b"), ("a", "b", "b", "a", "b"))
        self.other(("all", "b", "all", "b"), ("b",), ("a", "b", "a"))

    def test_6_and_7_items(self):
        for item in ITEMS:
            self.fitting((item,) * 6, ("a" if item != "b" else "b",) * 6)
            shape = (item,) * 7
            self.assertIs(told_by(self, BadShape, fits, NET, shape, ()).value, shape)

    def test_stacks_of_3000_and_3001_labels(self):
        for shape in (("all",), ("all", "a"), ("a", "all", "any"), ("all", "any", "all", "a", "all", "all")):
            self.fitting(shape, ("a",) * 2999, ("a",) * 3000)
            self.other(shape, ("a",) * 3001, ("a",) * 30000)
        self.other(("all",), ("a",) * 2999 + ("c",))
        self.other(("all", "b"), ("a",) * 3000)

    def test_all_little_shapes_and_stacks(self):
        stacks = [stack for many in range(5) for stack in itertools.product(LABELS, repeat=many)]
        for many in range(4):
            for shape in itertools.product(ITEMS, repeat=many):
                for stack in stacks:
                    self.assertIs(fits(NET, shape, stack), plain.cuts(shape, stack), (shape, stack))

    def test_great_shapes(self):
        chance = random.Random(5)
        told = []
        for turn in range(2000):
            shape = some_shape(chance, LABELS)
            stack = some_stack(chance, LABELS, shape)
            self.fitting(shape, stack)
            stack = some_word(chance, LABELS, 9)
            told.append(fits(NET, shape, stack))
            self.assertEqual(told[-1], plain.cuts(shape, stack), (shape, stack))
        self.assertGreater(told.count(True), 200)
        self.assertGreater(told.count(False), 200)

    def test_any_value_as_stack(self):
        for stack in (*WRONG, "", "a", "ab", ["a"], [], ("c",), ("any",), ("all",), ("",), {"a": 1}, {"a"}, 0, b"a"):
            for shape in ((), ("all",), ("any",), ("any", "all")):
                self.other(shape, stack)

    def test_a_wrong_label_anywhere(self):
        for value in (*WRONG, "", "c", "any", "all"):
            for place in range(3):
                self.other(("all",), put_at(("a", "b", "a"), (place,), value))

    def test_labels_of_this_net(self):
        self.assertIs(fits(SMALL, ("any",), ("a",)), True)
        self.assertIs(fits(SMALL, ("any",), ("b",)), False)
        self.assertEqual(told_by(self, BadShape, fits, SMALL, ("b",), ("a",)).value, ("b",))

    def test_refusals(self):
        for shape in NO_SHAPES:
            for stack in ((), ("a",), None):
                self.assertIs(told_by(self, BadShape, fits, NET, shape, stack).value, shape)
        self.assertEqual(told_by(self, BadNet, fits, None, None, None).place, ())


class Leads(unittest.TestCase):
    """How labels lead through the items, as the machines have it."""

    def test_by_the_promise(self):
        for many in range(5):
            for shape in itertools.product(ITEMS, repeat=many):
                for done in range(many + 1):
                    rest = shape[done:]
                    self.assertEqual(may_end(shape, done), all(item == "all" for item in rest))
                    for label in LABELS:
                        self.assertEqual(list(leads(shape, done, label)), sorted(plain.leads_to(shape, done, label)))

    def test_examples(self):
        self.assertEqual(leads(("all", "all", "any", "a"), 0, "a"), (0, 1, 3))
        self.assertEqual(leads(("all", "b", "any", "a"), 0, "a"), (0,))
        self.assertEqual(leads(("all", "b", "any", "a"), 1, "b"), (2,))
        self.assertEqual(leads(("all", "all"), 0, "b"), (0, 1))
        self.assertEqual(leads(("a",), 1, "a"), ())


if __name__ == "__main__":
    unittest.main()
