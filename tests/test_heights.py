"""Promise [36] and the interface of labelroads.heights."""

import unittest

from labelroads.heights import height
from labelroads.parcels import steps
from tests.samples import NET, SMALL, doubling_net, flat_net, ninefold_net, some_word
from tests.test_tops import CLIMBING, some_case


def walk_below(net, failed, parcel, bound, most):
    """The greatest height that comes, up to a bound, and whether all parcels below the bound were looked at."""
    seen = {parcel}
    waiting = [parcel]
    highest = len(parcel[1])
    while waiting and highest < bound and len(seen) < most:
        for choice, other in steps(net, failed, waiting.pop(0)):
            if other not in seen:
                seen.add(other)
                waiting.append(other)
                highest = max(highest, len(other[1]))
    return highest, not waiting


class Height(unittest.TestCase):
    def test_the_beginning_itself(self):
        for many in (0, 1, 2, 2999, 3000):
            self.assertEqual(height(SMALL, (), (0, ("a",) * many)), many)
        self.assertEqual(height(NET, (), (3, ("a", "b"))), 2)
        net = (((0, 0),), ("a",), (((0, "a"), (((0, ()),),)),))
        self.assertEqual(height(net, (), (0, ("a",) * 3000)), 3000)

    def test_a_stack_that_grows_to_an_end(self):
        self.assertEqual(height(NET, (), (0, ())), 3)
        self.assertEqual(height(NET, (1, 3), (0, ())), 1)
        self.assertEqual(height(NET, (), (0, ("a", "b"))), 3)
        self.assertEqual(height(CLIMBING, (), (0, ("a", "a", "a"))), 4)
        self.assertEqual(height(CLIMBING, (1,), (0, ("b",))), 3)

    def test_it_grows_below_what_is_popped_off(self):
        # The second label lays two more only when the first one is gone.
        net = (((0, 0),), ("a", "b", "c"), (((0, "a"), (((0, ()),),)), ((0, "b"), (((0, ("a", "c", "c")),),))))
        self.assertEqual(height(net, (), (0, ("a", "a", "b"))), 3)
        self.assertEqual(height(net, (), (0, ("a", "b"))), 3)
        self.assertEqual(height(net, (), (0, ("b", "b", "b"))), 5)
        self.assertEqual(height(net, (), (0, ("a", "b", "b", "b", "b"))), 6)
        self.assertEqual(height(net, (), (0, ("c", "b"))), 2)
        self.assertEqual(height(net, (), (0, ("b", *("a",) * 2999))), 3002)

    def test_a_stack_without_labels_that_grows_on_another_road(self):
        rows = (((0, ""), (((1, ()),),)), ((1, ""), (((2, ()),),)), ((2, ""), (((2, ("a", "a")),),)))
        net = (((0, 0),) * 3, ("a",), rows)
        self.assertEqual(height(net, (), (0, ())), 2)
        self.assertEqual(height(net, (), (1, ())), 2)
        self.assertEqual(height(net, (1,), (0, ())), 0)

    def test_no_greatest(self):
        self.assertIsNone(height(CLIMBING, (), (0, ("c",))))
        self.assertIsNone(height(CLIMBING, (), (0, ("b", "c"))))
        self.assertEqual(height(CLIMBING, (0,), (0, ("c",))), 1)
        net = (((0, 0),), ("a",), (((0, "a"), (((0, ("a", "a")), (0, ())),)),))
        self.assertIsNone(height(net, (), (0, ("a",))))
        self.assertEqual(height(net, (), (0, ())), 0)

    def test_what_goes_on_for_ever_without_growing(self):
        rows = (((0, ""), (((0, ("a", "b")),),)), ((0, "a"), (((0, ()), (0, ("a",))),)), ((0, "b"), (((0, ()),),)))
        net = (((0, 0),), ("a", "b"), rows)
        self.assertEqual(height(net, (), (0, ())), 2)
        self.assertEqual(height(net, (), (0, ("b",))), 2)
        self.assertEqual(height(net, (), (0, ("a", "a", "b"))), 3)

    def test_a_ring_that_grows_by_a_later_link(self):
        rows = (((0, "a"), (((1, ("a",)),),)), ((1, "a"), (((2, ("a",)),),)), ((2, "a"), (((0, ("b", "a", "b")),),)))
        rows = (rows[0], ((0, "b"), (((0, ()),),)), *rows[1:])
        net = (((0, 0),) * 3, ("a", "b"), rows)
        self.assertIsNone(height(net, (), (0, ("a",))))
        self.assertEqual(height(net, (2,), (0, ("a",))), 1)
        self.assertEqual(height(net, (0,), (0, ("a",))), 1)

    def test_long_rows_of_links(self):
        # From road to road a label more; the heads come in the order in which no link leads to the next one.
        roads = ((0, 0),) * 10
        up = tuple(((road, "a"), (((road + 1, ("a", "b", "b")),),)) for road in range(9))
        self.assertEqual(height((roads, ("a", "b"), up), (), (0, ("a",))), 19)
        down = tuple(((road, "a"), (((road - 1, ("a", "b", "b")),),)) for road in range(1, 10))
        self.assertEqual(height((roads, ("a", "b"), down), (), (9, ("a",))), 19)
        labels = ("d", "c", "b", "a")
        heads = [(road, label) for label in labels for road in range(9, -1, -1)]
        rows = tuple(sorted((head, (((other[0], (other[1], "a", "a")),),)) for head, other in zip(heads, heads[1:])))
        self.assertEqual(height((roads, labels, rows), (), (9, ("d",))), 79)

    def test_very_many_steps(self):
        self.assertEqual(height(doubling_net(2001), (), (0, ("a",))), 19)
        self.assertEqual(height(ninefold_net(10), (), (0, ("a",))), 1 + 9 * 4)

    def test_all_nets(self):
        told = []
        for seed in range(400):
            chance, net, failed, parcel = some_case(seed)
            number = height(net, failed, parcel)
            told.append(number)
            if number is None:
                highest, is_all = walk_below(net, failed, parcel, len(parcel[1]) + 12, 3000)
                self.assertFalse(is_all and highest < len(parcel[1]) + 12)
            else:
                self.assertEqual(walk_below(net, failed, parcel, number + 1, 30000), (number, True))
                self.assertGreaterEqual(number, len(parcel[1]))
        self.assertGreater(told.count(None), 30)

    def test_flat_nets(self):
        for seed in range(150):
            chance, net, failed, parcel = some_case(4 * seed + 2)
            self.assertIn(height(net, failed, parcel), (len(parcel[1]), 1))
            self.assertEqual(net, flat_net(4 * seed + 2))
            self.assertEqual(height(net, (), (0, some_word(chance, net[1], 0) + net[1])), len(net[1]))


if __name__ == "__main__":
    unittest.main()
