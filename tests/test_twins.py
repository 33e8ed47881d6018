"""Promise [41] and the interface of labelroads.twins."""

import random
import unittest

from labelroads.errors import BadNet, BadParcel
from labelroads.heights import height
from labelroads.nets import need_net
from labelroads.outcomes import outcomes
from labelroads.twins import merged, merged_parcel, twins
from tests import plain
from tests.samples import (
    NET, NO_PARCELS, SMALL, WRONG, fault_place, places, put_at, some_failed, some_word, told_by, twin_net,
)

ROADS = ((0, 0), (0, 1))


def net_of(labels, rows):
    return (ROADS, labels, tuple(sorted(rows.items(), key=lambda row: row[0])))


class Twins(unittest.TestCase):
    def test_labels_without_rows(self):
        for labels in (("a",), ("b", "a"), ("d", "a", "c", "b")):
            self.assertEqual(twins(net_of(labels, {})), (labels,))
            # Rows of heads without labels, and labels that occur in words alone, part nothing.
            rows = {(0, ""): (((0, labels[:1]), (1, labels[-1:])),), (1, ""): "home"}
            self.assertEqual(twins(net_of(labels, rows)), (labels,))

    def test_a_row_and_none(self):
        self.assertEqual(twins(net_of(("a", "b", "c"), {(0, "b"): "home"})), (("a", "c"), ("b",)))
        self.assertEqual(twins(net_of(("b", "a", "c"), {(0, "b"): (((0, ()),),)})), (("b",), ("a", "c")))

    def test_home_and_home(self):
        self.assertEqual(twins(net_of(("b", "a"), {(0, "b"): "home", (0, "a"): "home"})), (("b", "a"),))
        self.assertEqual(twins(net_of(("b", "a"), {(0, "b"): "home", (0, "a"): (((0, ()),),)})), (("b",), ("a",)))

    def test_rows_as_sets_of_choices(self):
        for one, other in (((0, ("a",)), (1, ("b", "c"))), ((0, ()), (1, ("c", "c")))):
            rows = {(0, "a"): ((one, other), (other,)), (0, "b"): ((other, one), (other,))}
            self.assertEqual(twins(net_of(("a", "b", "c"), rows)), (("a", "b"), ("c",)))
            rows[(0, "b")] = ((other, one), (one,))
            self.assertEqual(twins(net_of(("a", "b", "c"), rows)), (("a",), ("b",), ("c",)))

    def test_groups_one_by_one(self):
        first, second = ((0, ()),), ((1, ()),)
        for groups in ((second, first), (first,), (first, second, first), (first, (*second, *first)), "home"):
            rows = {(0, "a"): (first, second), (0, "b"): groups}
            self.assertEqual(twins(net_of(("a", "b"), rows)), (("a",), ("b",)), groups)
            rows = {(0, "a"): groups, (0, "b"): groups}
            self.assertEqual(twins(net_of(("a", "b"), rows)), (("a", "b"),), groups)

    def test_their_own_names_in_the_words(self):
        for one, other in (("a", "b"), ("b", "a")):
            rows = {(0, "a"): (((0, (one,)),),), (0, "b"): (((0, (other,)),),)}
            self.assertEqual(twins(net_of(("a", "b"), rows)), (("a", "b"),))
        rows = {(0, "a"): (((0, ("b", "a")), (1, ())),), (0, "b"): (((1, ()), (0, ("b", "b"))),)}
        self.assertEqual(twins(net_of(("a", "b"), rows)), (("a", "b"),))
        # Different for how many they are, not for their names.
        rows = {(0, "a"): (((0, ("b", "a")),),), (0, "b"): (((0, ("a",)),),)}
        self.assertEqual(twins(net_of(("a", "b"), rows)), (("a",), ("b",)))

    def test_choices_that_become_one(self):
        """As sets they are equal only when labels of a class are one."""
        rows = {(0, "a"): (((0, ("a",)), (0, ("b",))),), (0, "b"): (((0, ("b",)),),)}
        self.assertEqual(twins(net_of(("a", "b"), rows)), (("a", "b"),))
        rows = {(0, "a"): (((0, ("a",)), (0, ("c",))),), (0, "b"): (((0, ("b",)),),), (1, "c"): "home"}
        self.assertEqual(twins(net_of(("a", "b", "c"), rows)), (("a",), ("b",), ("c",)))

    def test_three_and_four(self):
        rows = {(0, label): (((1, (other,)),),) for label, other in zip("abc", "bca")}
        self.assertEqual(twins(net_of(("a", "b", "c"), rows)), (("a", "b", "c"),))
        self.assertEqual(twins(net_of(("c", "d", "a", "b"), rows)), (("c", "a", "b"), ("d",)))
        rows[(0, "d")] = (((1, ("d",)),),)
        self.assertEqual(twins(net_of(("c", "d", "a", "b"), rows)), (("c", "d", "a", "b"),))

    def test_one_road_alone(self):
        rows = {(road, label): (((1, ()),),) if road == 0 else "home" for road in (0, 1) for label in "abc"}
        self.assertEqual(twins(net_of(("a", "b", "c"), rows)), (("a", "b", "c"),))
        del rows[(1, "b")]
        self.assertEqual(twins(net_of(("a", "b", "c"), rows)), (("a", "c"), ("b",)))

    def test_classes_part_one_after_the_other(self):
        """Each label lays the next one; only the last one is home."""
        rows = {(0, label): (((0, (other,)),),) for label, other in zip("abc", "bcd")}
        rows[(0, "d")] = (((0, ("d",)),),)
        self.assertEqual(twins(net_of(("a", "b", "c", "d"), rows)), (("a", "b", "c", "d"),))
        rows[(0, "d")] = "home"
        self.assertEqual(twins(net_of(("a", "b", "c", "d"), rows)), (("a",), ("b",), ("c",), ("d",)))
        rows = {(0, "a"): (((0, ("c",)),),), (0, "b"): (((0, ("d",)),),), (0, "d"): "home", (0, "c"): "home"}
        self.assertEqual(twins(net_of(("d", "b", "a", "c"), rows)), (("d", "c"), ("b", "a")))

    def test_the_order_of_labels(self):
        rows = {(0, "b"): "home", (0, "d"): "home"}
        self.assertEqual(twins(net_of(("d", "a", "b", "c"), rows)), (("d", "b"), ("a", "c")))
        self.assertEqual(twins(net_of(("c", "b", "a", "d"), rows)), (("c", "a"), ("b", "d")))

    def test_all_nets(self):
        told = []
        for seed in range(400):
            net = twin_net(seed)
            found = twins(net)
            self.assertEqual({frozenset(members) for members in found}, plain.twins(net))
            self.assertIsInstance(found, tuple)
            for members in found:
                self.assertIsInstance(members, tuple)
                self.assertEqual(list(members), sorted(members, key=net[1].index))
            firsts = [members[0] for members in found]
            self.assertEqual(firsts, sorted(firsts, key=net[1].index))
            told.append((len(net[1]), len(found)))
        for kind in ((2, 1), (3, 2), (4, 2), (4, 3), (4, 4)):
            self.assertGreater(told.count(kind), 5, kind)


class Merged(unittest.TestCase):
    def test_by_hand(self):
        rows = {
            (0, ""): (((1, ("c", "b")), (0, ())), ((0, ("a", "c", "a")),)),
            (0, "a"): (((0, ("c",)), (0, ("a", "b"))),),
            (0, "b"): "home",
            (0, "c"): (((0, ("c", "b")), (0, ("a",))),),
            (1, ""): "home",
            (1, "b"): "home",
        }
        net = net_of(("c", "b", "a"), rows)
        self.assertEqual(twins(net), (("c", "a"), ("b",)))
        self.assertEqual(merged(net), (ROADS, ("c", "b"), (
            ((0, ""), (((0, ()), (1, ("c", "b"))), ((0, ("c", "c", "c")),))),
            ((0, "b"), "home"),
            ((0, "c"), (((0, ("c",)), (0, ("c", "b"))),)),
            ((1, ""), "home"),
            ((1, "b"), "home"),
        )))
        self.assertEqual(merged_parcel(net, (1, ("a", "b", "c", "a"))), (1, ("c", "b", "c", "c")))

    def test_choices_that_become_one(self):
        rows = {(0, "a"): (((1, ("b",)), (0, ("b",)), (0, ("a",))),), (0, "b"): (((0, ("a",)), (1, ("a",))),)}
        wanted = (ROADS, ("b",), (((0, "b"), (((0, ("b",)), (1, ("b",))),)),))
        self.assertEqual(merged(net_of(("b", "a"), rows)), wanted)
        rows[(0, "")] = (((0, ("a", "b")), (0, ("b", "a")), (0, ("a", "a"))),)
        self.assertEqual(merged(net_of(("a", "b"), rows))[2][0], ((0, ""), (((0, ("a", "a")),),)))

    def test_groups_ascend_where_nothing_is_merged(self):
        net = net_of(("a",), {(0, "a"): (((1, ()), (0, ("a",)), (0, ())), ((1, ("a",)),))})
        self.assertEqual(merged(net), net_of(("a",), {(0, "a"): (((0, ()), (0, ("a",)), (1, ())), ((1, ("a",)),))}))
        # The groups themselves stay in their order.
        net = net_of(("a",), {(0, "a"): (((1, ()),), ((0, ()),))})
        self.assertEqual(merged(net), net)

    def test_no_rows(self):
        self.assertEqual(merged(SMALL), SMALL)
        self.assertEqual(merged(net_of(("d", "c", "a", "b"), {})), net_of(("d",), {}))
        self.assertEqual(merged(NET)[:2], NET[:2])

    def test_parcels(self):
        net = net_of(("b", "a"), {})
        self.assertEqual(merged_parcel(net, (1, ())), (1, ()))
        self.assertEqual(merged_parcel(net, (0, ("a", "b") * 1500)), (0, ("b",) * 3000))
        net = net_of(("b", "a"), {(0, "b"): "home"})
        self.assertEqual(merged_parcel(net, (0, ("a", "b"))), (0, ("a", "b")))

    def test_all_nets(self):
        fewer = 0
        for seed in range(250):
            net = twin_net(seed)
            other = need_net(merged(net))
            self.assertEqual(other[:2], (net[0], tuple(members[0] for members in twins(net))))
            self.assertEqual(merged(other), other)
            self.assertEqual(twins(other), tuple((label,) for label in other[1]))
            self.groups_ascend(net, other)
            chance = random.Random(seed)
            for turn in range(8):
                failed = some_failed(chance, net) if turn % 2 else ()
                parcel = (chance.randrange(len(net[0])), some_word(chance, net[1], 4))
                self.same(net, other, failed, parcel)
            fewer += len(other[1]) < len(net[1])
        self.assertGreater(fewer, 80)

    def same(self, net, other, failed, parcel):
        """[41]'s fact."""
        replaced = merged_parcel(net, parcel)
        self.assertEqual(replaced, (parcel[0], plain.replaced(net, parcel[1])))
        self.assertEqual(outcomes(other, failed, replaced), outcomes(net, failed, parcel))
        self.assertEqual(height(other, failed, replaced), height(net, failed, parcel))

    def groups_ascend(self, net, other):
        kept = [head for head, groups in net[2] if head[1] in ("", *other[1])]
        self.assertEqual([head for head, groups in other[2]], kept)
        for head, groups in other[2]:
            if groups != "home":
                self.assertEqual(len(groups), len(dict(net[2])[head]))
                for group, told in zip(groups, dict(net[2])[head]):
                    wanted = {(out, plain.replaced(net, word)) for out, word in told}
                    self.assertEqual(group, tuple(sorted(wanted)))


class Refusals(unittest.TestCase):
    def test_no_nets(self):
        for path in places(NET):
            for value in WRONG:
                for call, others in ((twins, ()), (merged, ()), (merged_parcel, (None,)), (merged_parcel, ((0, ()),))):
                    told = told_by(self, BadNet, call, put_at(NET, path, value), *others)
                    self.assertEqual(told.place, fault_place(path, value))

    def test_no_parcels(self):
        for value in NO_PARCELS:
            self.assertIs(told_by(self, BadParcel, merged_parcel, NET, value).value, value)
        # A label that is there no more in the merged net is one of the net.
        net = net_of(("a", "b"), {})
        self.assertEqual(merged_parcel(net, (0, ("b",))), (0, ("a",)))
        self.assertEqual(told_by(self, BadParcel, merged_parcel, merged(net), (0, ("b",))).value, (0, ("b",)))


if __name__ == "__main__":
    unittest.main()
