"""Promises [11], [38] and the interface of labelroads.turning."""

import random
import unittest

from labelroads.errors import BadHead, BadNet, BadNumber, TooGreat
from labelroads.likeness import parted
from labelroads.nets import need_net
from labelroads.outcomes import outcomes
from labelroads.turning import turned_parcel, with_row
from tests.samples import (
    NET, NO_HEADS, NO_NUMBERS, ROWS, SMALL, WRONG, all_heads, little_net, some_groups, some_net, told_by, window_net,
)

# Values that are no GROUPS of a head with the road 0 of NET; None takes a row away.
NO_GROUPS = tuple(value for value in WRONG if value is not None) + (
    (), "", "Home", "house", ((),), (((1, ()),), ()), ((0, ()),), (((0, ()),),), (((4, ()),),), (((1, ("c",)),),),
    (((1, ("a",) * 4),),), (((1, ()), (1, ())),), (((1, ()),),) * 4, (((1, ()), (2, ()), (3, ()), (1, ("a",))),),
    [((1, ()),)], ([(1, ())],), (([1, ()],),), (((1, []),),), (((True, ()),),), ("home",), (("home",),), b"home",
)


def no_row_but(net, head, groups):
    """[11]: the net with this row, made without a look at which rows it has."""
    rows = {**dict(net[2]), head: groups}
    return (net[0], net[1], tuple((one, rows[one]) for one in sorted(rows) if rows[one] is not None))


class WithRow(unittest.TestCase):
    def test_in_the_place_of_a_row(self):
        for place, (head, groups) in enumerate(ROWS):
            told = with_row(NET, head, "home")
            self.assertEqual(told, (*NET[:2], (*ROWS[:place], (head, "home"), *ROWS[place + 1 :])))
            self.assertEqual(with_row(NET, head, groups), NET)
            self.assertEqual(with_row(told, head, groups), NET)

    def test_where_there_is_none(self):
        row = ((1, ""), (((1, ()),),))
        self.assertEqual(with_row(NET, *row), (*NET[:2], (*ROWS[:3], row, *ROWS[3:])))
        row = ((3, "b"), "home")
        self.assertEqual(with_row(NET, *row), (*NET[:2], (*ROWS, row)))
        row = ((0, ""), "home")
        self.assertEqual(with_row(SMALL, *row), (*SMALL[:2], (row,)))

    def test_none(self):
        for place, (head, groups) in enumerate(ROWS):
            self.assertEqual(with_row(NET, head, None), (*NET[:2], ROWS[:place] + ROWS[place + 1 :]))
        for head in ((1, ""), (2, ""), (3, "a")):
            self.assertEqual(with_row(NET, head, None), NET)
        self.assertEqual(with_row(SMALL, (0, "a"), None), SMALL)

    def test_all_nets(self):
        for seed in range(200):
            chance = random.Random(seed)
            net = some_net(seed)
            head = chance.choice(all_heads(net))
            groups = chance.choice((None, "home", some_groups(chance, net[0], net[1], head[0])))
            told = need_net(with_row(net, head, groups))
            self.assertEqual(told, no_row_but(net, head, groups))
            self.assertEqual(with_row(told, head, dict(net[2]).get(head)), net)

    def test_no_groups(self):
        for value in NO_GROUPS:
            for head, place in (((0, ""), 0), ((0, "a"), 1), ((0, "b"), 2)):
                self.assertEqual(told_by(self, BadNet, with_row, NET, head, value).place, ("rows", place))
                self.assertEqual(told_by(self, BadNet, turned_parcel, NET, head, value, 0).place, ("rows", place))
        for head, place in (((1, ""), 3), ((2, ""), 5), ((2, "b"), 6), ((3, "a"), 7)):
            self.assertEqual(told_by(self, BadNet, with_row, NET, head, ()).place, ("rows", place))
        # What goes behind one road does not go behind another one.
        self.assertEqual(told_by(self, BadNet, with_row, NET, (2, "a"), (((1, ()),),)).place, ("rows", 5))
        with_row(NET, (0, "a"), (((1, ()),),))

    def test_names(self):
        self.assertEqual(with_row(groups=None, head=(3, ""), net=NET), with_row(NET, (3, ""), None))
        self.assertIsNone(turned_parcel(most=2, groups="home", head=(3, ""), net=NET))


class TurnedParcel(unittest.TestCase):
    def test_by_hand(self):
        failed, parcel, outcome = turned_parcel(NET, (3, ""), None, 0)
        self.assertEqual((failed, parcel), ((), (3, ())))
        self.assertIn(outcome, (("home", 2), ("lost",)))
        self.assertEqual(turned_parcel(SMALL, (0, "a"), "home", 2)[:2], ((), (0, ("a",))))
        self.assertEqual(turned_parcel(SMALL, (0, "a"), (((0, ()),),), 2), None)

    def test_rows_as_they_are(self):
        for net in (NET, window_net("a")):
            for head, groups in net[2]:
                self.assertIsNone(turned_parcel(net, head, groups, 2))
        self.assertIsNone(turned_parcel(NET, (2, ""), None, 2))

    def test_a_group_that_is_used_when_a_road_has_failed(self):
        net = (((0, 0), (0, 1), (0, 2)), ("a",), (((0, "a"), (((1, ()),),)), ((2, ""), "home")))
        groups = (((1, ()),), ((2, ()),))
        self.assertIsNone(turned_parcel(net, (0, "a"), groups, 0))
        for most in (1, 2):
            self.assertEqual(turned_parcel(net, (0, "a"), groups, most)[:2], ((1,), (0, ("a",))))

    def test_it_agrees_with_parted(self):
        many = 0
        for seed in range(150):
            chance = random.Random(seed)
            net = little_net(seed, 2)
            head = chance.choice(all_heads(net))
            groups = chance.choice((None, some_groups(chance, net[0], net[1], head[0])))
            other = with_row(net, head, groups)
            for most in range(2):
                told = turned_parcel(net, head, groups, most)
                self.assertEqual(told, parted(net, other, most))
                if told is not None:
                    many += 1
                    failed, parcel, outcome = told
                    ones = [outcome in outcomes(one, failed, parcel) for one in (net, other)]
                    self.assertEqual(sorted(ones), [False, True])
        self.assertGreater(many, 100)

    def test_too_great(self):
        """One row makes a net that keeps labels a in mind, and one that keeps a and b in mind, alike for long."""
        groups = (((0, ()), (1, ())),)
        one = window_net("a")
        other = with_row(one, (0, "b"), groups)
        for net, row in ((one, groups), (other, dict(one[2])[(0, "b")])):
            self.assertEqual(told_by(self, TooGreat, turned_parcel, net, (0, "b"), row, 0).most, 3000)
        told_by(self, TooGreat, parted, one, other, 0)
        # What a stack without labels tells is found ahead of that.
        self.assertEqual(turned_parcel(one, (9, ""), "home", 2)[:2], ((), (9, ())))


class Refusals(unittest.TestCase):
    def test_heads(self):
        for value in NO_HEADS:
            self.assertIs(told_by(self, BadHead, with_row, NET, value, "home").value, value)
            self.assertIs(told_by(self, BadHead, turned_parcel, NET, value, "home", 0).value, value)

    def test_their_order(self):
        for value in WRONG:
            for groups in ("home", None, (), value):
                told_by(self, BadNet, with_row, value, value, groups)
                told_by(self, BadNet, turned_parcel, value, value, groups, value)
                self.assertIs(told_by(self, BadHead, with_row, NET, value, groups).value, value)
                self.assertIs(told_by(self, BadHead, turned_parcel, NET, value, groups, value).value, value)
                told = told_by(self, BadNumber, turned_parcel, NET, (0, "a"), groups, value)
                self.assertIs(told.value, value)

    def test_numbers(self):
        for value in NO_NUMBERS:
            self.assertIs(told_by(self, BadNumber, turned_parcel, NET, (0, "a"), None, value).value, value)
        for most in range(3):
            self.assertEqual(told_by(self, BadNet, turned_parcel, NET, (0, "a"), (), most).place, ("rows", 1))


if __name__ == "__main__":
    unittest.main()
