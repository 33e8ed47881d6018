"""Promise [37] and the interface of labelroads.outcomes."""

import unittest

from labelroads.ever import for_ever
from labelroads.machines import can_come
from labelroads.nets import fate
from labelroads.outcomes import outcomes
from labelroads.parcels import steps
from tests import plain
from tests.samples import NET, SMALL
from tests.test_tops import some_case

EVER, LOST = ("ever",), ("lost",)
# Each label has another outcome, and d has them all; e is popped off.
ALL = (((0, 0), (0, 5), (0, 3)), ("a", "b", "c", "d"), (
    ((0, ""), "home"),
    ((0, "a"), (((0, ("a",)),),)),
    ((0, "b"), (((1, ()), (2, ())),)),
    ((0, "c"), (((0, ()),),)),
    ((0, "d"), (((0, ("a",)), (0, ("b",)), (1, ("a",))),)),
    ((1, ""), "home"),
    ((2, ""), "home"),
))


class Outcomes(unittest.TestCase):
    def test_each_one_alone(self):
        self.assertEqual(outcomes(ALL, (), (0, ("a",))), (EVER,))
        self.assertEqual(outcomes(ALL, (), (0, ())), (("home", 0),))
        self.assertEqual(outcomes(ALL, (), (1, ())), (("home", 5),))
        self.assertEqual(outcomes(ALL, (), (1, ("a",))), (LOST,))
        self.assertEqual(outcomes(SMALL, (), (0, ())), (LOST,))

    def test_several(self):
        self.assertEqual(outcomes(ALL, (), (0, ("b",))), (("home", 3), ("home", 5)))
        self.assertEqual(outcomes(ALL, (), (0, ("d",))), (EVER, ("home", 3), ("home", 5), LOST))
        self.assertEqual(outcomes(ALL, (), (0, ("b", "a"))), (LOST,))

    def test_behind_pops(self):
        self.assertEqual(outcomes(ALL, (), (0, ("c",) * 3000)), (("home", 0),))
        self.assertEqual(outcomes(ALL, (), (0, (*("c",) * 2999, "a"))), (EVER,))
        self.assertEqual(outcomes(ALL, (), (0, ("c", "b", "a"))), (LOST,))

    def test_failed_roads(self):
        self.assertEqual(outcomes(ALL, (1,), (0, ("b",))), (("home", 3),))
        self.assertEqual(outcomes(ALL, (1, 2), (0, ("b",))), (LOST,))
        self.assertEqual(outcomes(ALL, (0,), (0, ("a",))), (LOST,))
        self.assertEqual(outcomes(ALL, (0,), (0, ("d",))), (LOST,))
        self.assertEqual(outcomes(ALL, (1,), (0, ("d",))), (EVER, ("home", 3)))
        self.assertEqual(outcomes(NET, (), (0, ("b",))), (("home", 1),))

    def test_home_ends_what_would_go_on(self):
        net = (((0, 0),), ("a",), (((0, ""), "home"), ((0, "a"), (((0, ("a", "a")), (0, ())),))))
        self.assertEqual(outcomes(net, (), (0, ("a",))), (EVER, ("home", 0)))
        self.assertEqual(outcomes(net, (), (0, ())), (("home", 0),))

    def test_they_agree_with_the_other_ways(self):
        words = []
        for seed in range(300):
            chance, net, failed, parcel = some_case(seed)
            told = outcomes(net, failed, parcel)
            self.assertIsInstance(told, tuple)
            self.assertGreater(len(told), 0)
            wanted = [EVER] if for_ever(net, failed, parcel) else []
            wanted += [("home", house) for house in range(8) if can_come(net, failed, parcel, ("home", house))]
            wanted += [LOST] if can_come(net, failed, parcel, LOST) else []
            self.assertEqual(list(told), wanted)
            words.extend(outcome[0] for outcome in told)
        for word in ("ever", "home", "lost"):
            self.assertGreater(words.count(word), 40)

    def test_flat_nets(self):
        for seed in range(200):
            chance, net, failed, parcel = some_case(4 * seed + 2)
            wanted = {EVER} if plain.goes_for_ever(net, failed, parcel) else set()
            for other in plain.walk_all(net, failed, [parcel], 10**6, 10**6):
                what = fate(net, failed, plain.head_of_parcel(other))
                if what == "home":
                    wanted.add(("home", net[0][other[0]][1]))
                if what == "lost":
                    wanted.add(LOST)
            self.assertEqual(outcomes(net, failed, parcel), tuple(sorted(wanted)))

    def test_they_are_those_behind_all_choices_together(self):
        for seed in range(300):
            chance, net, failed, parcel = some_case(seed)
            behind = [outcomes(net, failed, other) for choice, other in steps(net, failed, parcel)]
            if behind:
                together = sorted({outcome for one in behind for outcome in one})
                self.assertEqual(list(outcomes(net, failed, parcel)), together)


if __name__ == "__main__":
    unittest.main()
