"""Promise [38] and the interface of labelroads.likeness."""

import random
import unittest
from unittest import mock

from labelroads.errors import BadNet, BadNumber, OtherNet, TooGreat
from labelroads.likeness import alike, parted
from labelroads.nets import failures
from labelroads.outcomes import outcomes
from tests import plain
from tests.samples import (
    LABELS, NET, NO_NUMBERS, ROADS, ROWS, SMALL, WRONG, all_heads, changed_net, clock_net, doubling_net, fault_place,
    little_net, places, put_at, some_net, told_by, window_net,
)

LOST = ("lost",)


def with_rows(net, changes):
    """The net with other rows; None stands for none."""
    rows = {head: groups for head, groups in {**dict(net[2]), **changes}.items() if groups is not None}
    return (net[0], net[1], tuple(sorted(rows.items(), key=lambda row: row[0])))


def chain_net(first):
    """A net in which b is popped off to the first of a chain of roads, a to the next one; the last one is home."""
    rows = [((road, "a"), (((road + 1, ()),),)) for road in range(8)]
    rows += [((9, "b"), (((first, ()),),)), ((8, ""), "home")]
    return (((0, 0),) * 10, ("a", "b"), tuple(sorted(rows, key=lambda row: row[0])))


def few_rows(chance, roads):
    """A net of three rows with choices at the most, and any number of rows with "home"."""
    heads = all_heads((roads, ("a", "b")))
    many = chance.choice((0.1, 0.5, 0.9))
    rows = {head: "home" for head in heads if chance.random() < many}
    for head in chance.sample([head for head in heads if head[1] or chance.random() < 0.2], 3):
        outs = [out for out, way in enumerate(roads) if way[0] == roads[head[0]][1]]
        words = [tuple(chance.choice("ab") for place in range(chance.choice((0, 0, 0, 1, 2, 3)))) for turn in range(3)]
        rows.pop(head, None)
        if outs:
            rows[head] = (tuple(dict.fromkeys((chance.choice(outs), word) for word in words)),)
    return (roads, ("a", "b"), tuple(sorted(rows.items(), key=lambda row: row[0])))


class Likeness(unittest.TestCase):
    def alike(self, one, other, most):
        for pair in ((one, other), (other, one)):
            self.assertIs(alike(*pair, most), True)
            self.assertIsNone(parted(*pair, most))

    def parted(self, one, other, most, failed, labels):
        """They part first with these failed roads, by a stack of so many labels; returns what one of them tells."""
        for pair in ((other, one), (one, other)):
            told = parted(*pair, most)
            self.assertIsInstance(told, tuple)
            self.assertEqual((told[0], len(told[1][1])), (failed, labels))
            self.is_parting(*pair, told)
            self.assertIs(alike(*pair, most), False)
        return told

    def is_parting(self, one, other, told):
        failed, parcel, outcome = told
        self.assertIsInstance(parcel, tuple)
        self.assertEqual([outcome in outcomes(net, failed, parcel) for net in (one, other)].count(True), 1)

    def test_a_net_and_itself(self):
        for net in (NET, SMALL, window_net("a"), clock_net(()), *[some_net(seed) for seed in range(10)]):
            for most in range(3):
                self.alike(net, net, most)

    def test_choices_of_a_group_in_another_order(self):
        group = dict(ROWS)[(0, "a")][0]
        for turned in (group[::-1], group[1:] + group[:1]):
            self.alike(NET, with_rows(NET, {(0, "a"): (turned, *dict(ROWS)[(0, "a")][1:])}), 2)

    def test_groups_in_another_order(self):
        net = (((0, 0), (0, 1), (0, 2)), ("a",), (((0, "a"), (((1, ()),), ((2, ()),))), ((1, ""), "home")))
        other = with_rows(net, {(0, "a"): (((2, ()),), ((1, ()),))})
        self.parted(net, other, 0, (), 1)

    def test_rows_by_which_nothing_else_comes(self):
        """A parcel is lost with a row as it is without one."""
        net = (((0, 0), (0, 1)), ("a",), (((0, ""), "home"),))
        self.alike(net, with_rows(net, {(0, "a"): (((1, ("a", "a")),),)}), 2)
        self.alike(net, with_rows(net, {(1, "a"): None}), 2)
        self.parted(net, with_rows(net, {(0, "a"): (((0, ("a",)),),)}), 0, (), 1)
        # What comes behind the choice is on a ring; a label more below, and nothing goes on.
        one = (((0, 0), (0, 1), (1, 1)), ("a",), (((0, "a"), (((1, ()),),)), ((1, ""), (((2, ()), (2, ("a",))),))))
        one = with_rows(one, {(2, ""): (((2, ()),),)})
        self.parted(one, with_rows(one, {(0, "a"): (((1, ("a",)),),)}), 0, (), 1)

    def test_a_third_group_that_is_never_reached(self):
        roads = ((0, 0), (0, 1), (0, 2), (0, 3))
        rows = (((0, "a"), (((1, ()), (2, ())), ((3, ()),), ((0, ()),))), ((0, ""), "home"), ((3, ""), "home"))
        net = (roads, ("a",), tuple(sorted(rows, key=lambda row: row[0])))
        for third in (((0, ("a",)),), ((2, ("a", "a")), (1, ()))):
            self.alike(net, with_rows(net, {(0, "a"): (*dict(rows)[(0, "a")][:2], third)}), 2)
        self.alike(net, with_rows(net, {(0, "a"): dict(rows)[(0, "a")][:2]}), 2)
        # The second one is reached if two roads fail.
        other = with_rows(net, {(0, "a"): (((1, ()), (2, ())), ((0, ()),))})
        self.alike(net, other, 1)
        self.parted(net, other, 2, (1, 2), 1)

    def test_no_failed_road_one_and_two_alone(self):
        roads = ((0, 0), (0, 1), (0, 2), (0, 3))
        for many in range(3):
            groups = (((1, ()),), ((2, ()),), ((3, ()),))
            changed = tuple(((0, ()),) if place == many else group for place, group in enumerate(groups))
            net = (roads, ("a",), (((0, ""), "home"), ((0, "a"), groups), ((3, ""), "home")))
            other = with_rows(net, {(0, "a"): changed})
            failed = ((), (1,), (1, 2))[many]
            for most in range(many):
                self.alike(net, other, most)
            for most in range(many, 3):
                self.parted(net, other, most, failed, 1)

    def test_the_first_of_several_sets(self):
        # Both part with road 1 and with road 2 failed, and without labels with road 2 alone.
        roads = ((0, 0), (0, 1), (0, 2), (0, 3))
        groups = (((1, ()),), ((3, ()),))
        rows = (((0, ""), (((2, ()),), ((3, ()),))), ((0, "a"), groups), ((3, ""), "home"))
        net = (roads, ("a",), rows)
        other = with_rows(net, {(0, ""): (((2, ()),),), (0, "a"): (((1, ()),),)})
        self.parted(net, other, 1, (1,), 1)
        self.parted(net, with_rows(net, {(0, ""): (((2, ()),),)}), 2, (2,), 0)

    def test_stacks_without_labels(self):
        net = (((0, 0), (0, 1)), ("a",), ())
        told = self.parted(net, with_rows(net, {(1, ""): "home"}), 2, (), 0)
        self.assertEqual(told, ((), (1, ()), told[2]))
        self.assertIn(told[2], (LOST, ("home", 1)))
        told = self.parted(net, with_rows(net, {(0, ""): (((0, ()),),)}), 0, (), 0)
        self.assertIn(told[2], (LOST, ("ever",)))

    def test_the_house(self):
        net = (((0, 0), (0, 1), (0, 2)), ("a",), (((0, "a"), (((1, ()),),)), ((1, ""), "home"), ((2, ""), "home")))
        told = self.parted(net, with_rows(net, {(0, "a"): (((2, ()),),)}), 0, (), 1)
        self.assertIn(told[2], (("home", 1), ("home", 2)))

    def test_for_ever_alone(self):
        # Lost in both, but one can go on for ever.
        net = (((0, 0), (0, 1)), ("a",), (((0, "a"), (((1, ()),),)),))
        told = self.parted(net, with_rows(net, {(0, "a"): (((0, ("a",)), (1, ())),)}), 0, (), 1)
        self.assertEqual(told, ((), (0, ("a",)), ("ever",)))

    def test_high_stacks_alone(self):
        for first, second, labels in ((1, 2, 7), (0, 1, 8), (0, 8, 1), (7, 8, 1), (3, 4, 5)):
            told = self.parted(chain_net(first), chain_net(second), 0, (), labels)
            self.assertEqual(told[1], (9, ("b", *("a",) * (labels - 1))))
        # A clock of four hours and one of five have their last hours together after nineteen.
        told = self.parted(clock_net(()), clock_net((1,)), 0, (), 20)
        self.assertEqual(told, ((), (9, ("b", *("a",) * 19)), ("home", 0)))
        self.alike(clock_net((1,)), clock_net((3,)), 0)
        self.alike(clock_net((0,)), clock_net(()), 0)
        self.parted(clock_net((0,)), clock_net(()), 1, (9,), 1)

    def test_a_tower_of_pops(self):
        """Label for label more are laid, and all are popped off before the parcel is home."""
        for number in (6, 126, 2046):
            net = with_rows(doubling_net(number), {(0, ""): "home"})
            last = max(road for (road, top), groups in net[2])
            told = self.parted(net, with_rows(net, {(last, "d"): None}), 0, (), 1)
            self.assertEqual(told[1], (0, ("a",)))
            self.alike(net, with_rows(net, {(last, "a"): (((last, ("d",)), (last, ("d", "d", "d"))),)}), 0)
            # One more label, that no one takes off, is left behind.
            told = self.parted(net, with_rows(net, {(last, "a"): (((last, ("d", "d", "c")),),)}), 0, (), 1)
            self.assertEqual(told[1], (0, ("a",)))

    def test_all_partings_by_low_stacks(self):
        told = []
        for seed in range(250):
            one, other = changed_net(seed)
            found = parted(one, other, 1)
            wanted = None
            for failed in failures(one, 1):
                wanted = wanted or next(plain.partings(one, other, failed, 2), None)
            if found is None or len(found[1][1]) > 2:
                self.assertTrue(wanted is None or found is not None and found[0] < wanted[0])
            else:
                self.parted(one, other, 1, wanted[0], len(wanted[1][1]))
            told.append(found and (len(found[0]), min(1, len(found[1][1]))))
        for kind in (None, (0, 0), (0, 1), (1, 0), (1, 1)):
            self.assertGreater(told.count(kind), 2, kind)

    def test_most(self):
        for seed in range(60):
            one, other = changed_net(seed + 500)
            told = [parted(one, other, most) for most in range(3)]
            sets = [failures(one, most) for most in range(3)]
            for less, more in ((0, 1), (1, 2), (0, 2)):
                if told[less] is not None:
                    self.assertEqual(told[more], told[less])
                elif told[more] is not None:
                    self.assertNotIn(told[more][0], sets[less])

    def test_nets_of_other_sizes(self):
        """Partings tell outcomes rightly whatever the nets are; so many roads and labels may be too many."""
        many = 0
        for seed in range(40):
            one = some_net(seed)
            chance = random.Random(seed)
            row = chance.choice(one[2]) if one[2] else ((0, ""), None)
            other = with_rows(one, {row[0]: None if seed % 2 or row[1] is None else row[1][:1]})
            if row[1] == "home":
                other = with_rows(one, {row[0]: None})
            try:
                told = parted(one, other, 1)
            except TooGreat:
                continue
            if told is not None:
                self.is_parting(one, other, told)
                many += 1
        self.assertGreater(many, 10)


class Bound(unittest.TestCase):
    def too_great(self, one, other, most):
        for call in (parted, alike):
            self.assertEqual(told_by(self, TooGreat, call, one, other, most).most, 3000)
            self.assertEqual(told_by(self, TooGreat, call, other, one, most).most, 3000)

    def test_too_many_standings(self):
        self.too_great(window_net("a"), window_net("b"), 0)
        self.too_great(window_net("a"), window_net("b"), 2)

    def test_a_parting_that_is_found_ahead(self):
        other = with_rows(window_net("b"), {(9, ""): "home"})
        self.assertEqual(parted(window_net("a"), other, 2)[:2], ((), (9, ())))
        self.assertIs(alike(window_net("a"), other, 2), False)

    def test_a_later_set_is_too_great(self):
        """With the road 9 failed, a row that hides what differs is not used any more."""
        one, other = window_net("a"), window_net("b")
        hidden = []
        for net in (one, other):
            rows = {(0, top): (((9, ()),), *dict(net[2])[(0, top)]) for top in net[1]}
            hidden.append(with_rows(net, rows))
        self.assertIs(alike(*hidden, 0), True)
        self.too_great(*hidden, 1)

    def test_never_of_nets_with_few_rows(self):
        with mock.patch("labelroads.likeness.MOST_STANDINGS", 900):
            for seed in range(1500):
                chance = random.Random(seed)
                houses = chance.choice((1, 1, 2, 6))
                roads = tuple((chance.randrange(houses), chance.randrange(houses)) for road in range(6))
                one, other = few_rows(chance, roads), few_rows(chance, roads)
                told = parted(one, other, seed % 3 if seed < 100 else 0)
                self.assertTrue(told is None or told[2] in (*outcomes(one, *told[:2]), *outcomes(other, *told[:2])))


class Refusals(unittest.TestCase):
    OTHER = with_rows(NET, {(0, "b"): None})

    def test_no_nets(self):
        for call in (alike, parted):
            for path in places(NET):
                for value in WRONG:
                    wrong = put_at(NET, path, value)
                    wanted = fault_place(path, value)
                    self.assertEqual(told_by(self, BadNet, call, wrong, NET, 1).place, wanted)
                    self.assertEqual(told_by(self, BadNet, call, NET, wrong, 1).place, wanted)

    def test_no_nets_both(self):
        for call in (alike, parted):
            for value in (None, SMALL, NET, (ROADS, LABELS, 0)):
                told = told_by(self, BadNet, call, (ROADS, 0, ROWS), value, None)
                self.assertEqual(told.place, ("labels",))
                told = told_by(self, BadNet, call, SMALL, (0, LABELS, ROWS), value)
                self.assertEqual(told.place, ("roads",))

    def test_other_roads_and_labels(self):
        one = (ROADS, LABELS, ())
        for call in (alike, parted):
            for other in (
                SMALL, (ROADS[:-1], LABELS, ()), ((*ROADS, (0, 0)), LABELS, ()), (ROADS[::-1], LABELS, ()),
                (ROADS, ("b",), ()), (ROADS, ("a", "b"), ()), (ROADS, ("b", "a", "c"), ()), (ROADS, ("b", "c"), ()),
            ):
                for most in (1, 3, None):
                    self.assertEqual(vars(told_by(self, OtherNet, call, one, other, most)), {})
                    told_by(self, OtherNet, call, other, one, most)
            self.assertIs(call(one, (ROADS, LABELS, ()), 0), True if call == alike else None)

    def test_numbers(self):
        for call in (alike, parted):
            for value in NO_NUMBERS:
                self.assertIs(told_by(self, BadNumber, call, NET, self.OTHER, value).value, value)
                self.assertIs(told_by(self, BadNumber, call, window_net("a"), window_net("b"), value).value, value)

    def test_equal_calls(self):
        for seed in range(20):
            one, other = changed_net(seed)
            self.assertEqual(parted(one, other, 1), parted(one, other, 1))
            self.assertEqual(parted(other=other, most=1, one=one), parted(one, other, 1))
            self.assertIs(alike(most=1, other=other, one=one), parted(one, other, 1) is None)
            self.assertIs(alike(little_net(seed), little_net(seed), 0), True)


if __name__ == "__main__":
    unittest.main()
