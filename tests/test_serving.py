"""Promise [40] and the interface of labelroads.serving."""

import random
import unittest

from labelroads.errors import BadEntries, BadNet, BadNumber
from labelroads.nets import failures, need_net
from labelroads.outcomes import outcomes
from labelroads.serving import pruned, serving
from tests import plain
from tests.samples import (
    NET, NO_ENTRIES, NO_NUMBERS, SMALL, WRONG, flat_net, little_net, some_net, some_shape, told_by,
)

# From road 0, a goes by 1, or by 2 if 1 has failed, or stays; behind 1, b is popped off, and all is home.
WAYS = (((0, 0), (0, 1), (0, 1), (1, 1)), ("a", "b"), (
    ((0, "a"), (((1, ("b",)),), ((2, ()),), ((0, ("b",)), (1, ())))),
    ((0, "b"), (((0, ()),),)),
    ((1, ""), "home"),
    ((1, "a"), (((3, ()),),)),
    ((1, "b"), (((3, ()),), ((3, ("a",)),))),
    ((2, ""), "home"),
    ((3, ""), "home"),
    ((3, "a"), "home"),
))


def some_question(seed):
    """Arguments of both functions, of nets of every kind."""
    chance = random.Random(seed)
    net = (some_net, little_net, flat_net, little_net)[seed % 4](seed)
    entries = tuple(
        (chance.randrange(len(net[0])), some_shape(chance, net[1], 3)) for entry in range(chance.choice((1, 1, 2, 3)))
    )
    return net, chance.randint(0, 1), entries


def place_of(entries):
    """The place that BadEntries tells of a value of NO_ENTRIES: what follows the first item is not wrong alone."""
    return 0 if isinstance(entries, tuple) and 1 <= len(entries) <= 6 else None


class Serving(unittest.TestCase):
    def test_one_entry(self):
        self.assertEqual(serving(WAYS, 0, ((0, ("a",)),)), ((0, "a", 0), (1, "b", 0), (3, "", 0)))
        self.assertEqual(serving(WAYS, 0, ((0, ("b",)),)), ((0, "b", 0),))
        self.assertEqual(serving(WAYS, 0, ((0, ("b", "a")),)), ((0, "a", 0), (0, "b", 0), (1, "b", 0), (3, "", 0)))
        self.assertEqual(serving(WAYS, 0, ((1, ()),)), ((1, "", 0),))
        self.assertEqual(serving(WAYS, 0, ((2, ("any", "all")),)), ())
        self.assertEqual(serving(WAYS, 0, ((0, ()),)), ())

    def test_a_group_that_serves_only_when_a_road_has_failed(self):
        wanted = ((0, "a", 0), (0, "a", 1), (1, "b", 0), (2, "", 0), (3, "", 0))
        self.assertEqual(serving(WAYS, 1, ((0, ("a",)),)), wanted)
        # If both have failed, what is left of the third one leads to b.
        wanted = ((0, "a", 0), (0, "a", 1), (0, "a", 2), (0, "b", 0), *wanted[2:])
        self.assertEqual(serving(WAYS, 2, ((0, ("a",)),)), wanted)

    def test_a_group_without_a_road_that_has_not_failed(self):
        """The second group of (1, "b") has the same road as the first one: it is never used."""
        for most in range(3):
            self.assertNotIn((1, "b", 1), serving(WAYS, most, ((1, ("b", "all")),)))
            self.assertIn((1, "b", 0), serving(WAYS, most, ((1, ("b", "all")),)))
        net = (((0, 0),), ("a",), (((0, ""), (((0, ("a",)),),)), ((0, "a"), (((0, ("a",)),), ((0, ()),)))))
        self.assertEqual(serving(net, 2, ((0, ()),)), ((0, "", 0), (0, "a", 0)))

    def test_home_serves_and_does_not(self):
        self.assertIn((3, "", 0), serving(WAYS, 0, ((0, ("a",)),)))
        self.assertNotIn((3, "a", 0), serving(WAYS, 2, ((0, ("a",)),)))
        self.assertIn((3, "a", 0), serving(WAYS, 0, ((1, ("b", "a")),)))
        self.assertEqual(pruned(WAYS, 0, ((3, ("all",)),))[2], (((3, ""), "home"), ((3, "a"), "home")))
        self.assertEqual(pruned(WAYS, 2, ((3, ("a",)),))[2], (((3, "a"), "home"),))

    def test_shapes(self):
        net = (((0, 0), (0, 0)), ("a", "b"), (
            ((0, ""), "home"), ((0, "a"), (((1, ()),),)), ((0, "b"), (((1, ("b",)),),)),
            ((1, ""), "home"), ((1, "a"), (((0, ()),),)), ((1, "b"), "home"),
        ))
        pop = ((0, "a", 0), (1, "a", 0))
        for shape, wanted in (
            ((), ((0, "", 0),)),
            (("a",), (pop[0], (1, "", 0))),
            (("a", "a"), ((0, "", 0), *pop)),
            (("any",), ((0, "a", 0), (0, "b", 0), (1, "", 0), (1, "b", 0))),
            (("all",), ((0, "", 0), (0, "a", 0), (0, "b", 0), (1, "", 0), (1, "a", 0), (1, "b", 0))),
            (("all", "a"), ((0, "", 0), (0, "a", 0), (0, "b", 0), (1, "", 0), (1, "a", 0), (1, "b", 0))),
            (("a", "b"), ((0, "a", 0), (1, "b", 0))),
            (("a", "any", "b"), ((0, "a", 0), (0, "b", 0), (1, "a", 0), (1, "b", 0))),
            (("b", "all"), ((0, "b", 0), (1, "b", 0))),
            (("all", "all"), ((0, "", 0), (0, "a", 0), (0, "b", 0), (1, "", 0), (1, "a", 0), (1, "b", 0))),
        ):
            self.assertEqual(serving(net, 0, ((0, shape),)), wanted, shape)

    def test_six_entries(self):
        entries = ((0, ()), (1, ()), (2, ("a",)), (3, ("a",)), (0, ("b",)), (3, ()))
        wanted = ((0, "b", 0), (1, "", 0), (3, "", 0), (3, "a", 0))
        self.assertEqual(serving(WAYS, 0, entries), wanted)
        self.assertEqual(serving(WAYS, 0, entries[::-1]), wanted)
        self.assertEqual(serving(WAYS, 0, (entries[4],) * 6), ((0, "b", 0),))
        one_by_one = {triple for entry in entries for triple in serving(WAYS, 2, (entry,))}
        self.assertEqual(serving(WAYS, 2, entries), tuple(sorted(one_by_one)))

    def test_heads_that_come_over_others(self):
        """The label below serves only when those above have been popped off, by whichever road."""
        entries = ((0, ("b", "b", "b", "a")),)
        self.assertEqual(serving(WAYS, 0, entries), ((0, "a", 0), (0, "b", 0), (1, "b", 0), (3, "", 0)))

    def test_all_nets(self):
        several = 0
        for seed in range(200):
            net, most, entries = some_question(seed)
            told = serving(net, most, entries)
            self.assertIsInstance(told, tuple)
            self.assertEqual(told, tuple(sorted(plain.serving(net, most, entries))))
            several += len(told) > 3
        self.assertGreater(several, 40)


class Pruned(unittest.TestCase):
    def test_by_hand(self):
        self.assertEqual(pruned(WAYS, 1, ((0, ("a",)),)), (WAYS[0], WAYS[1], (
            ((0, "a"), (((1, ("b",)),), ((2, ()),))),
            ((1, "b"), (((3, ()),),)),
            ((2, ""), "home"),
            ((3, ""), "home"),
        )))

    def test_a_group_in_the_middle_is_left_out(self):
        # With road 1 failed the first group still has road 2; with both of them failed, the second one has none left.
        net = (((0, 0), (0, 1), (0, 1), (0, 2)), ("a",), (
            ((0, "a"), (((1, ()), (2, ())), ((2, ("a",)),), ((3, ()),))),
            ((3, ""), "home"),
        ))
        self.assertEqual(serving(net, 2, ((0, ("a",)),)), ((0, "a", 0), (0, "a", 2), (3, "", 0)))
        row = ((0, "a"), (((1, ()), (2, ())), ((3, ()),)))
        self.assertEqual(pruned(net, 2, ((0, ("a",)),)), (net[0], net[1], (row, ((3, ""), "home"))))
        self.assertEqual(pruned(net, 1, ((0, ("a",)),))[2], (((0, "a"), (((1, ()), (2, ())),)),))

    def test_groups_stay_as_they_are(self):
        """Their choices are not sorted."""
        net = (((0, 0), (0, 1)), ("a",), (((0, "a"), (((1, ()), (0, ())),)),))
        self.assertEqual(pruned(net, 0, ((0, ("a",)),)), net)

    def test_no_rows(self):
        self.assertEqual(pruned(WAYS, 2, ((2, ("any",)),)), (WAYS[0], WAYS[1], ()))
        self.assertEqual(pruned(SMALL, 2, ((0, ("all",)),)), SMALL)
        net = (((0, 0),), ("a",), (((0, "a"), "home"),))
        self.assertEqual(pruned(net, 0, ((0, ()),)), (net[0], net[1], ()))
        self.assertEqual(serving(net, 0, ((0, ()),)), ())

    def test_all_that_serves_stays(self):
        entries = tuple((road, ("all",)) for road in range(4))
        self.assertEqual(serving(NET, 0, entries), tuple((*head, 0) for head, groups in NET[2]))
        wanted = tuple((head, groups if groups == "home" else groups[:1]) for head, groups in NET[2])
        self.assertEqual(pruned(NET, 0, entries)[2], wanted)

    def test_all_nets(self):
        fewer = 0
        for seed in range(150):
            net, most, entries = some_question(seed)
            told = pruned(net, most, entries)
            self.assertEqual(need_net(told)[:2], net[:2])
            self.assertEqual(pruned(told, most, entries), told)
            self.same_outcomes(net, told, most, entries)
            self.rows_of(net, told, serving(net, most, entries))
            fewer += told != net
        self.assertGreater(fewer, 60)

    def same_outcomes(self, net, other, most, entries):
        """[40]'s fact, for low stacks."""
        for failed in failures(net, most):
            for road, shape in entries:
                for stack in plain.stacks_of(net[1], shape, 2):
                    parcel = (road, stack)
                    self.assertEqual(outcomes(net, failed, parcel), outcomes(other, failed, parcel))

    def rows_of(self, net, other, served):
        """Each group that serves is there, in its place, and no other one."""
        wanted = {}
        for road, top, number in served:
            groups = dict(net[2])[(road, top)]
            wanted[(road, top)] = "home" if groups == "home" else (*wanted.get((road, top), ()), groups[number])
        self.assertEqual(other[2], tuple(sorted(wanted.items(), key=lambda row: row[0])))


class Refusals(unittest.TestCase):
    def test_wrong_entries(self):
        for call in (serving, pruned):
            for value in NO_ENTRIES:
                told = told_by(self, BadEntries, call, NET, 1, value)
                self.assertEqual((told.place, vars(told)), (place_of(value), {"place": place_of(value)}))

    def test_none_six_and_seven(self):
        for call in (serving, pruned):
            for many in range(10):
                entries = ((0, ("a",)),) * many
                if 1 <= many <= 6:
                    call(NET, 2, entries)
                else:
                    self.assertIsNone(told_by(self, BadEntries, call, NET, 2, entries).place)
            # How many they are is looked at first.
            self.assertIsNone(told_by(self, BadEntries, call, NET, 2, (None,) * 7).place)

    def test_each_place(self):
        good = ((0, ("a",)), (3, ()), (1, ("all",) * 6), (2, ("any", "b")), (0, ()), (1, ("a",)))
        wrong = (*WRONG, (4, ()), (0, ("c",)), (0, ("all",) * 7), (0, []), [0, ()], (True, ()), (0,), (0, (), ()), ())
        for call in (serving, pruned):
            call(NET, 1, good)
            for place in range(6):
                for value in wrong:
                    entries = (*good[:place], value, *good[place + 1 :])
                    self.assertEqual(told_by(self, BadEntries, call, NET, 1, entries).place, place)
                    entries = (*good[:place], *[value for entry in good[place:]])
                    self.assertEqual(told_by(self, BadEntries, call, NET, 1, entries).place, place)

    def test_entries_of_another_net(self):
        for call in (serving, pruned):
            for entry in ((1, ()), (0, ("b",)), (0, ("any", "all", "b"))):
                self.assertEqual(told_by(self, BadEntries, call, SMALL, 0, ((0, ("a",)), entry)).place, 1)

    def test_they_are_behind_the_others(self):
        for call in (serving, pruned):
            for entries in NO_ENTRIES:
                self.assertIs(told_by(self, BadNumber, call, NET, 3, entries).value, 3)
                told_by(self, BadNet, call, (), 3, entries)
            for value in NO_NUMBERS:
                self.assertIs(told_by(self, BadNumber, call, NET, value, ((0, ()),)).value, value)


if __name__ == "__main__":
    unittest.main()
