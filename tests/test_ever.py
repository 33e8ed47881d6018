"""Promises [33], [34] and the interface of labelroads.ever."""

import random
import unittest

from labelroads.errors import BadPaper, TooGreat
from labelroads.ever import check_ever, ever_paper, first_for_ever, for_ever, ring_heads
from labelroads.nets import failures
from labelroads.parcels import walked
from labelroads.tops import heads_from, links, pops
from tests import plain
from tests.samples import (
    SMALL, WRONG, Agreeing, Breaking, doubling_net, flat_net, ninefold_net, places, put_at, ring_net, some_shape,
    some_word, told_by,
)
from tests.test_tops import some_case

# a goes round on road 0; b lays more and more; c is popped off; d goes round over roads 0, 1 and back.
RINGS = (((0, 0), (0, 0)), ("d", "c", "b", "a"), (
    ((0, "a"), (((0, ("a",)),),)),
    ((0, "b"), (((0, ("b", "c")),),)),
    ((0, "c"), (((0, ()),),)),
    ((0, "d"), (((1, ("c", "d")),),)),
    ((1, "c"), (((1, ()),),)),
    ((1, "d"), (((0, ("d",)),),)),
))
# A parcel that ends: its stack is popped off from road 0, and it is home on road 1.
ENDING = (((0, 0), (0, 1)), ("b", "a"), (
    ((0, ""), (((1, ()),),)),
    ((0, "a"), (((0, ("b", "b")), (0, ("b",))),)),
    ((0, "b"), (((0, ()),),)),
    ((1, ""), "home"),
))
ENDS = ("ends", ((0, "a", 0), (0, "b", 0)), (((0, ""), 1), ((0, "a"), 1), ((0, "b"), 0), ((1, ""), 0)))


def with_way(net):
    """The net, but that on road 0 the label d is popped off."""
    return (net[0], net[1], tuple(sorted({**dict(net[2]), (0, "d"): (((0, ()),),)}.items())))


class RingHeads(unittest.TestCase):
    def test_by_hand(self):
        self.assertEqual(ring_heads(RINGS, ()), ((0, "a"), (0, "b"), (0, "d"), (1, "d")))
        self.assertEqual(ring_heads(RINGS, (1,)), ((0, "a"), (0, "b")))
        self.assertEqual(ring_heads(RINGS, (0,)), ())
        self.assertEqual(ring_heads(ENDING, ()), ())
        self.assertEqual(ring_heads(SMALL, ()), ())

    def test_a_ring_of_one_link_without_labels(self):
        net = (((0, 0),), ("a",), (((0, ""), (((0, ()),),)),))
        self.assertEqual(ring_heads(net, ()), ((0, ""),))
        net = (((0, 0),), ("a",), (((0, ""), (((0, ("a",)),),)), ((0, "a"), (((0, ()),),))))
        self.assertEqual(ring_heads(net, ()), ((0, ""),))

    def test_what_only_leads_to_a_ring_is_not_on_it(self):
        rows = (((0, ""), (((0, ("b", "a")),),)), ((0, "a"), (((0, ("a",)),),)), ((0, "b"), (((0, ("a",)),),)))
        net = (((0, 0),), ("a", "b"), rows)
        self.assertEqual(ring_heads(net, ()), ((0, "a"),))

    def test_all_nets(self):
        many = 0
        for seed in range(300):
            chance, net, failed, parcel = some_case(seed)
            told = ring_heads(net, failed)
            self.assertIsInstance(told, tuple)
            self.assertEqual(list(told), sorted(plain.heads_on_rings(net, failed)))
            many += len(told)
        self.assertGreater(many, 200)


class ForEver(unittest.TestCase):
    def test_stacks_that_grow_and_such_as_do_not(self):
        for parcel in ((0, ("a",)), (0, ("b",)), (0, ("d",)), (1, ("d", "c"))):
            self.assertIs(for_ever(RINGS, (), parcel), True)
            self.assertIs(for_ever(RINGS, (0,), parcel), False)
        for parcel in ((0, ()), (0, ("c", "c")), (1, ("b",)), (1, ("a", "d"))):
            self.assertIs(for_ever(RINGS, (), parcel), False)

    def test_rings_behind_pops(self):
        self.assertIs(for_ever(RINGS, (), (0, ("c",) * 2999 + ("a",))), True)
        self.assertIs(for_ever(RINGS, (), (0, ("c",) * 3000)), False)
        self.assertIs(for_ever(RINGS, (), (1, ("c", "c", "b"))), False)
        self.assertIs(for_ever(RINGS, (), (1, ("c", "c", "d"))), True)
        self.assertIs(for_ever(RINGS, (1,), (0, ("c", "d"))), False)

    def test_flat_nets(self):
        told = []
        for seed in range(300):
            net = flat_net(seed)
            chance = random.Random(seed)
            parcel = (chance.randrange(len(net[0])), some_word(chance, net[1], 3))
            told.append(for_ever(net, (), parcel))
            self.assertIs(told[-1], plain.goes_for_ever(net, (), parcel))
        self.assertGreater(told.count(True), 40)
        self.assertGreater(told.count(False), 40)

    def test_it_is_so_if_a_head_on_a_ring_comes(self):
        told = []
        for seed in range(300):
            chance, net, failed, parcel = some_case(seed)
            told.append(for_ever(net, failed, parcel))
            wanted = set(heads_from(net, failed, parcel)) & set(ring_heads(net, failed))
            self.assertIs(told[-1], bool(wanted))
        self.assertGreater(told.count(True), 50)
        self.assertGreater(told.count(False), 100)


class FirstForEver(unittest.TestCase):
    def test_by_hand(self):
        self.assertEqual(first_for_ever(RINGS, 2, 0, ("all", "a")), ())
        self.assertIsNone(first_for_ever(RINGS, 2, 1, ("c", "a", "all")))
        self.assertIsNone(first_for_ever(RINGS, 2, 0, ("c", "c")))
        self.assertEqual(first_for_ever(RINGS, 0, 0, ("c", "any")), ())
        self.assertEqual(first_for_ever(RINGS, 0, 1, ("all", "d", "all")), ())
        self.assertIsNone(first_for_ever(RINGS, 0, 1, ("c", "c")))
        self.assertIsNone(first_for_ever(SMALL, 2, 0, ("all",)))

    def test_roads_that_have_to_fail(self):
        groups = (((1, ()), (2, ()))[:1], ((2, ()),), ((0, ("a",)),))
        net = (((0, 0), (0, 1), (0, 1)), ("a",), (((0, "a"), groups),))
        self.assertEqual([first_for_ever(net, most, 0, ("a",)) for most in range(3)], [None, None, (1, 2)])
        self.assertEqual([first_for_ever(net, most, 0, ("all",)) for most in range(3)], [None, None, (1, 2)])
        self.assertIsNone(first_for_ever(net, 2, 0, ()))
        net = (net[0], net[1], (((0, "a"), (((1, ()),), ((0, ("a",)),))),))
        self.assertEqual([first_for_ever(net, most, 0, ("a",)) for most in range(3)], [None, (1,), (1,)])

    def test_all_nets(self):
        told = []
        for seed in range(200):
            chance, net, failed, parcel = some_case(seed)
            most = chance.randint(0, 2) if len(net[0]) < 5 else 1
            shape = some_shape(chance, net[1], 3)
            told.append(first_for_ever(net, most, parcel[0], shape))
            for some in failures(net, most):
                stacks = plain.stacks_of(net[1], shape, 3)
                known = any(for_ever(net, some, (parcel[0], stack)) for stack in stacks)
                if some == told[-1]:
                    high = plain.stacks_of(net[1], shape, 5)
                    self.assertTrue(known or any(for_ever(net, some, (parcel[0], stack)) for stack in high))
                    break
                self.assertFalse(known)
        self.assertGreater(told.count(None), 50)
        self.assertGreater(len(told) - told.count(None), 50)


class EverPaper(unittest.TestCase):
    def test_by_hand(self):
        self.assertEqual(ever_paper(RINGS, (), (0, ("a",))), ("ever", (), ((0, ("a",)),)))
        self.assertEqual(ever_paper(RINGS, (), (0, ("b",))), ("ever", (), ((0, ("b", "c")),)))
        self.assertEqual(ever_paper(RINGS, (), (0, ("c", "c", "a"))), ("ever", ((0, ()), (0, ())), ((0, ("a",)),)))
        self.assertEqual(ever_paper(RINGS, (), (0, ("d",))), ("ever", (), ((1, ("c", "d")), (1, ()), (0, ("d",)))))
        word, taken, ring = ever_paper(RINGS, (), (1, ("c", "d")))
        self.assertEqual((word, len(taken), len(ring)), ("ever", 1, 3))

    def test_a_ring_without_labels(self):
        net = (((0, 0),), ("a",), (((0, ""), (((0, ("a",)),),)), ((0, "a"), (((0, ()),),))))
        self.assertEqual(ever_paper(net, (), (0, ())), ("ever", (), ((0, ("a",)), (0, ()))))
        self.assertEqual(ever_paper(net, (), (0, ("a",))), ("ever", ((0, ()),), ((0, ("a",)), (0, ()))))

    def test_a_shorter_ring_that_is_farther(self):
        # From a: three steps round at once, or one step to b, that goes round by one.
        rows = [((0, "a"), (((1, ("a",)), (0, ("b",))),)), ((0, "b"), (((0, ("b",)),),))]
        rows += [((1, "a"), (((2, ("a",)),),)), ((2, "a"), (((0, ("a",)),),))]
        net = (((0, 0),) * 3, ("a", "b"), tuple(rows))
        self.assertEqual(ever_paper(net, (), (0, ("a",))), ("ever", ((0, ("b",)),), ((0, ("b",)),)))

    def test_a_longer_ring_that_is_nearer(self):
        # Four steps to b, that goes round by one; a goes round by three.
        rows = [((0, "a"), (((1, ("a",)),),)), ((1, "a"), (((2, ("a",)), (3, ("a",))),)), ((2, "a"), (((0, ("a",)),),))]
        rows += [((3, "a"), (((3, ("b", "b")),),)), ((3, "b"), (((0, ("b",)),),)), ((0, "b"), (((0, ("b",)),),))]
        net = (((0, 0),) * 4, ("a", "b"), tuple(sorted(rows)))
        word, taken, ring = ever_paper(net, (), (0, ("a",)))
        self.assertEqual((word, taken, len(ring)), ("ever", (), 3))

    def test_a_head_that_comes_sooner_by_more_labels(self):
        # From road 0 a is popped off to road 2 by four steps, or by two to road 1, from where the next one is by one.
        rows = [((0, "a"), (((3, ("a",)), (1, ("b",))),)), ((1, "a"), (((2, ()),),)), ((1, "b"), (((1, ()),),))]
        rows += [((3, "a"), (((3, ("b",)),),)), ((3, "b"), (((3, ("c",)),),)), ((3, "c"), (((2, ()),),))]
        rows += [((2, "a"), (((2, ("a",)),),))]
        net = (((0, 0),) * 4, ("a", "b", "c"), tuple(sorted(rows)))
        self.assertEqual(ever_paper(net, (), (0, ("a",) * 3)), (
            "ever", ((1, ("b",)), (1, ()), (2, ())), ((2, ("a",)),),
        ))
        word, taken, ring = ever_paper(net, (), (0, ("a",) * 2))
        self.assertEqual((word, len(taken), len(ring)), ("ever", 4, 1))

    def test_ends(self):
        self.assertEqual(ever_paper(ENDING, (), (0, ("a", "a"))), ENDS)
        self.assertEqual(ever_paper(ENDING, (), (1, ("a",))), ("ends", ENDS[1], (((1, "a"), 0),)))
        self.assertEqual(ever_paper(ENDING, (0, 1), (0, ("a",))), ("ends", (), (((0, "a"), 0),)))
        self.assertEqual(ever_paper(SMALL, (), (0, ())), ("ends", (), (((0, ""), 0),)))

    def test_the_greatest_number_of_links(self):
        # From a there is a link to b, and one to c, from which three lead on.
        rows = [((0, "a"), (((0, ("b",)), (1, ("a",))),)), ((1, "a"), (((2, ("a",)),),)), ((2, "a"), (((0, ("b",)),),))]
        net = (((0, 0),) * 3, ("a", "b"), tuple(sorted(rows)))
        ranks = (((0, "a"), 3), ((0, "b"), 0), ((1, "a"), 2), ((2, "a"), 1))
        self.assertEqual(ever_paper(net, (), (0, ("a",)))[2], ranks)

    def test_all_nets(self):
        words = []
        for seed in range(400):
            chance, net, failed, parcel = some_case(seed)
            told = ever_paper(net, failed, parcel)
            words.append(told[0])
            self.assertEqual(told, ever_paper(net, failed, parcel))
            self.assertEqual(told[0] == "ever", for_ever(net, failed, parcel))
            self.assertEqual(check_ever(net, failed, parcel, told), told[0])
            if told[0] == "ends":
                heads = heads_from(net, failed, parcel)
                wanted = tuple((head, plain.longest_links(links(net, failed), head)) for head in heads)
                self.assertEqual(told, ("ends", pops(net, failed), wanted))
        self.assertGreater(words.count("ever"), 80)
        self.assertGreater(words.count("ends"), 80)

    def test_the_fewest_choices(self):
        numbers = []
        for seed in range(400):
            chance, net, failed, parcel = some_case(seed)
            if not for_ever(net, failed, parcel):
                continue
            word, taken, ring = ever_paper(net, failed, parcel)
            numbers.append(len(taken) + len(ring))
            bound = min(numbers[-1], 7)
            found = []
            for other, number in plain.walk_all(net, failed, [parcel], bound, 12).items():
                round_it = plain.fewest_ring(net, failed, plain.head_of_parcel(other), bound - number, 8)
                if round_it is not None:
                    found.append(number + round_it)
            self.assertEqual(min(found, default=None), numbers[-1] if numbers[-1] <= 7 else None)
        self.assertGreater(len([number for number in numbers if number > 2]), 25)

    def test_2000_and_2001_choices(self):
        for number in (2, 3, 60, 1999, 2000):
            net = ring_net(number)
            told = ever_paper(net, (), (0, ()))
            self.assertEqual((told[:2], len(told[2])), (("ever", ()), number))
            self.assertEqual(check_ever(net, (), (0, ()), told), "ever")
        for number in (2001, 2002, 3000):
            self.assertEqual(told_by(self, TooGreat, ever_paper, ring_net(number), (), (0, ())).most, 2000)
            self.assertIs(for_ever(ring_net(number), (), (0, ())), True)

    def test_choices_and_ring_together(self):
        net = ring_net(1000)
        told = ever_paper(net, (), (0, ("a",)))
        self.assertEqual((told[0], len(told[1]), len(told[2])), ("ever", 999, 1000))
        told_by(self, TooGreat, ever_paper, net, (), (0, ("a", "a")))
        self.assertEqual(told_by(self, TooGreat, ever_paper, ring_net(1001), (), (0, ("a",))).most, 2000)
        # Behind two steps a ring of 1,998 begins, or of 1,999.
        for number in (1998, 1999):
            net = with_way(ring_net(number))
            if number == 1998:
                word, taken, ring = ever_paper(net, (), (0, ("d", "d")))
                self.assertEqual((word, len(taken), len(ring)), ("ever", 2, 1998))
            else:
                told_by(self, TooGreat, ever_paper, net, (), (0, ("d", "d")))

    def test_very_many_steps(self):
        roads, labels, rows = ninefold_net(10)
        net = (roads, labels, (((0, ""), (((0, ()),),)), *rows))
        self.assertIs(for_ever(net, (), (0, ("a",))), True)
        told_by(self, TooGreat, ever_paper, net, (), (0, ("a",)))
        self.assertEqual(ever_paper(net, (), (0, ())), ("ever", (), ((0, ()),)))
        self.assertEqual(ever_paper(doubling_net(2001), (), (0, ("a", "a")))[0], "ends")

    def test_stacks_of_3000_labels(self):
        told = ever_paper(RINGS, (), (0, ("c",) * 1999 + ("a",) * 1001))
        self.assertEqual(told, ("ever", ((0, ()),) * 1999, ((0, ("a",)),)))
        told_by(self, TooGreat, ever_paper, RINGS, (), (0, ("c",) * 2000 + ("a",) * 1000))
        self.assertEqual(ever_paper(RINGS, (), (0, ("c",) * 3000))[2], (((0, ""), 0), ((0, "c"), 0)))


class CheckEver(unittest.TestCase):
    def good(self, net, failed, parcel, value):
        self.assertEqual(check_ever(net, failed, parcel, value), value[0])

    def bad(self, net, failed, parcel, value, word):
        self.assertEqual(told_by(self, BadPaper, check_ever, net, failed, parcel, value).word, word, value)

    def test_no_form(self):
        values = (
            *WRONG, (), "ever", "ends", ("ever",), ("ends",), ("ever", ()), ("ends", ()), ("ever", (), (), ()),
            ["ever", (), ()], ("Ever", (), ()), (b"ever", (), ()), ("way", (), ()), ("never", (), ()), ((), (), ()),
            ("ever", [], ()), ("ever", (), []), ("ends", [], ()), ("ends", (), []), ("ends", (), None),
            ("ever", None, ()), ("ends", "", ()), ("ends", {}, ()), ("ends", (), {}), ("ends", 0, 0),
            (Agreeing(), (), ()), (Breaking(), (), ()), ("ever", Agreeing(), ()), ("ends", (), Breaking()),
            ((), (), "ever"), ("", (), ()), (None, (), ()), ("end", (), ()), {"ever": 1}, ("ever", "ends", ()),
        )
        for value in values:
            for net, parcel in ((RINGS, (0, ("a",))), (ENDING, (0, ("a", "a")))):
                self.bad(net, (), parcel, value, "form")

    def test_a_good_ring(self):
        self.good(RINGS, (), (0, ("a",)), ("ever", (), ((0, ("a",)),)))
        self.good(RINGS, (), (0, ("a",)), ("ever", ((0, ("a",)),), ((0, ("a",)),) * 5))
        self.good(RINGS, (), (0, ("b", "c")), ("ever", (), ((0, ("b", "c")),) * 2))
        self.good(RINGS, (), (0, ("d",)), ("ever", (), ((1, ("c", "d")), (1, ()), (0, ("d",)))))
        self.good(RINGS, (), (0, ("d",)), ("ever", ((1, ("c", "d")), (1, ())), ((0, ("d",)), (1, ("c", "d")), (1, ()))))

    def test_a_wrong_ring(self):
        step, round_it = ((1, ("c", "d")),), ((1, ("c", "d")), (1, ()), (0, ("d",)))
        for ring in ((), step, round_it[:2], (*round_it, *step), round_it[1:], round_it[::-1], ((0, ("a",)),)):
            self.bad(RINGS, (), (0, ("d",)), ("ever", (), ring), "ever")
        self.bad(RINGS, (), (0, ("d",)), ("ever", step, round_it), "ever")
        self.bad(RINGS, (), (0, ("a",)), ("ever", (), ((0, ("b", "c")),)), "ever")
        self.bad(RINGS, (0,), (0, ("a",)), ("ever", (), ((0, ("a",)),)), "ever")

    def test_the_ring_is_gone_with_the_top_label_alone(self):
        # Over another label, a is popped off, and the head is the same again; alone, it leaves no stack.
        net = (((0, 0),), ("a",), (((0, "a"), (((0, ()),),)),))
        self.bad(net, (), (0, ("a", "a")), ("ever", (), ((0, ()),)), "ever")
        net = (net[0], net[1], (((0, ""), (((0, ("a",)),),)), *net[2]))
        self.bad(net, (), (0, ("a", "a")), ("ever", (), ((0, ()), (0, ("a",)))), "ever")
        self.bad(net, (), (0, ("a",)), ("ever", (), ((0, ()), (0, ("a",)))), "ever")
        self.good(net, (), (0, ("a",)), ("ever", ((0, ()),), ((0, ("a",)), (0, ()))))
        self.good(net, (), (0, ()), ("ever", (), ((0, ("a",)), (0, ()), (0, ("a",)), (0, ()))))
        self.bad(net, (), (0, ()), ("ever", (), ((0, ("a",)),)), "ever")
        self.bad(net, (), (0, ()), ("ever", ((0, ("a",)),), ((0, ()), (0, ("a",)))), "ever")

    def test_a_ring_that_comes_back_with_a_higher_stack(self):
        net = (((0, 0),), ("a",), (((0, ""), (((0, ("a", "a")),),)), ((0, "a"), (((0, ("a", "a")), (0, ())),))))
        grow, drop = (0, ("a", "a")), (0, ())
        self.good(net, (), (0, ("a",)), ("ever", (), (grow, drop)))
        self.good(net, (), (0, ("a",)), ("ever", (), (grow, grow, drop)))
        self.bad(net, (), (0, ("a",)), ("ever", (), (grow, drop, drop)), "ever")
        self.bad(net, (), (0, ()), ("ever", (), (grow,)), "ever")
        self.good(net, (), (0, ()), ("ever", (), (grow, drop, drop)))
        self.good(net, (), (0, ("a",) * 3000), ("ever", (grow,) * 100, (grow,)))

    def test_rings_of_any_number_of_choices(self):
        for many in (1, 1999, 2000, 2001, 5000):
            self.good(RINGS, (), (0, ("a",)), ("ever", ((0, ("a",)),) * many, ((0, ("a",)),)))
            self.good(RINGS, (), (0, ("a",)), ("ever", (), ((0, ("a",)),) * many))

    def test_wrong_choices(self):
        for wrong in (*WRONG, (), (0,), (0, ("a",), ()), [0, ("a",)], (0, ["a"]), (2, ("a",)), (False, ("a",)), 0, "a"):
            self.bad(RINGS, (), (0, ("a",)), ("ever", (wrong,), ((0, ("a",)),)), "ever")
            self.bad(RINGS, (), (0, ("a",)), ("ever", (), (wrong,)), "ever")
            self.bad(RINGS, (), (0, ("a",)), ("ever", (), ((0, ("a",)), wrong)), "ever")

    def test_good_ends(self):
        for parcel in ((0, ("a", "a")), (0, ()), (0, ("b",)), (1, ()), (0, ("a",) * 3000)):
            self.good(ENDING, (), parcel, ENDS)

    def test_greater_pops_and_ranks(self):
        word, triples, ranks = ENDS
        more = (*triples, (1, "a", 0), (1, "b", 1))
        self.good(ENDING, (), (0, ("a",)), (word, more, ranks))
        self.good(ENDING, (), (0, ("a",)), (word, triples, tuple((head, rank + 7) for head, rank in ranks)))
        self.good(ENDING, (), (0, ("a",)), (word, triples, tuple((head, rank * 10**999) for head, rank in ranks)))
        self.good(ENDING, (), (0, ("a",)), (word, triples, tuple(sorted((*ranks, ((1, "a"), 3), ((1, "b"), 0))))))

    def test_greater_pops_want_more_ranks(self):
        word, triples, ranks = ENDS
        more = tuple(sorted((*triples, (0, "b", 1))))
        self.bad(ENDING, (), (0, ("a",)), (word, more, ranks), "ends")
        more = tuple(sorted((*more, (1, "b", 1), (0, "a", 1), (1, "b", 0))))
        self.bad(ENDING, (), (0, ("a",)), (word, more, ranks), "ends")
        self.good(ENDING, (), (0, ("a",)), (word, more, tuple(sorted((*ranks, ((1, "b"), 0))))))

    def test_a_rank_that_is_too_small(self):
        word, triples, ranks = ENDS
        for place, rank in ((0, 0), (1, 0), (2, 1), (3, 1), (2, 2), (3, 5)):
            self.bad(ENDING, (), (0, ("a",)), (word, triples, put_at(ranks, (place, 1), rank)), "ends")
        self.good(ENDING, (), (0, ("a",)), (word, triples, put_at(ranks, (0, 1), 2)))

    def test_a_head_that_lacks(self):
        word, triples, ranks = ENDS
        for place in range(4):
            less = ranks[:place] + ranks[place + 1 :]
            self.bad(ENDING, (), (0, ("a",)), (word, triples, less), "ends")
        self.bad(ENDING, (), (0, ("a",)), (word, triples, ()), "ends")
        self.good(ENDING, (), (0, ("b",)), (word, triples, (ranks[0], *ranks[2:])))
        self.good(ENDING, (), (1, ()), (word, triples, ranks[3:]))

    def test_what_links_lead_to_from_a_head_that_need_not_be_there(self):
        word, triples, ranks = ENDS
        self.bad(ENDING, (), (1, ()), (word, triples, (ranks[0], ((1, ""), 1))), "ends")
        self.bad(ENDING, (), (1, ()), (word, triples, (ranks[0],)), "ends")
        self.bad(ENDING, (), (1, ()), (word, triples, (ranks[1], ranks[3])), "ends")

    def test_a_triple_that_lacks(self):
        word, triples, ranks = ENDS
        self.bad(ENDING, (), (0, ("a",)), (word, (), ranks), "ends")
        self.bad(ENDING, (), (0, ("a",)), (word, triples[:1], ranks), "ends")
        self.bad(ENDING, (), (0, ("a",)), (word, triples[1:], ranks), "ends")
        # The rule wants the triples of all heads, not only of those that come.
        self.bad(ENDING, (), (1, ()), (word, (), ranks[3:]), "ends")

    def test_triples_and_pairs_of_other_lengths(self):
        word, triples, ranks = ENDS
        for triple in ((), (9,), (1, "a"), (1, "a", 0, 0), (1, "a", 0, "a")):
            self.bad(ENDING, (), (0, ("a",)), (word, tuple(sorted((*triples, triple))), ranks), "ends")
        for pair in ((), ((1, "a"),), ((1, "a"), 0, 0)):
            self.bad(ENDING, (), (0, ("a",)), (word, triples, (*ranks, pair)), "ends")
        for triple in ((1, "a", 2), (2, "a", 0), (1, "c", 0), (1, "", 0), (True, "a", 0), (1, "a", False)):
            self.bad(ENDING, (), (0, ("a",)), (word, tuple(sorted((*triples, triple))), ranks), "ends")
        for pair in (((1, "a"), -1), ((1, "a"), True), ((1, "c"), 0), ((2, ""), 0), ((True, "a"), 0), (1, 0)):
            self.bad(ENDING, (), (0, ("a",)), (word, triples, (*ranks, pair)), "ends")

    def test_out_of_order(self):
        word, triples, ranks = ENDS
        self.bad(ENDING, (), (0, ("a",)), (word, triples[::-1], ranks), "ends")
        self.bad(ENDING, (), (0, ("a",)), (word, (triples[0], *triples), ranks), "ends")
        self.bad(ENDING, (), (0, ("a",)), (word, triples, ranks[::-1]), "ends")
        self.bad(ENDING, (), (0, ("a",)), (word, triples, (ranks[0], *ranks)), "ends")
        self.bad(ENDING, (), (0, ("a",)), (word, triples, (ranks[0], ((0, ""), 5), *ranks[1:])), "ends")

    def test_a_wrong_value_in_each_place(self):
        for path in places(ENDS)[1:]:
            is_rank = path[0] == 2 and path[2:] == (1,)
            for value in (*WRONG, "c", 99):
                if is_rank and isinstance(value, int) and value > 1:
                    continue
                is_part = len(path) == 1 and path != (0,) and isinstance(value, tuple)
                wanted = "form" if len(path) == 1 and not is_part else "ends"
                self.bad(ENDING, (), (0, ("a", "a")), put_at(ENDS, path, value), wanted)

    def test_not_one_of_each_sort(self):
        for seed in range(200):
            chance, net, failed, parcel = some_case(seed)
            word = ever_paper(net, failed, parcel)[0]
            triples = pops(net, failed)
            ranks = tuple((head, 50 - place) for place, head in enumerate(heads_from(net, failed, parcel)))
            if word == "ever":
                self.bad(net, failed, parcel, ("ends", triples, ranks), "ends")
                self.bad(net, failed, parcel, ("ends", triples, tuple((head, 0) for head, rank in ranks)), "ends")
            else:
                for choices in ((), ((0, ()),)):
                    self.bad(net, failed, parcel, ("ever", (), choices), "ever")

    def test_others_that_hold_and_that_do_not(self):
        told = []
        for seed in range(400):
            chance, net, failed, parcel = some_case(seed)
            if for_ever(net, failed, parcel):
                continue
            word, triples, ranks = ever_paper(net, failed, parcel)
            roads = range(len(net[0]))
            for extra in range(chance.randint(0, 2)):
                extra = (chance.choice(roads), chance.choice(net[1]), chance.choice(roads))
                triples = tuple(sorted({*triples, extra}))
            if chance.random() < 0.3 and triples:
                triples = tuple(sorted(set(triples) - {chance.choice(triples)}))
            more = dict(ranks)
            more[chance.choice(plain.heads_of(net))] = chance.randint(0, 3)
            ranks = tuple(sorted(more.items()))
            told.append(plain.is_ends(net, failed, parcel, triples, ranks))
            if told[-1]:
                self.good(net, failed, parcel, ("ends", triples, ranks))
            else:
                self.bad(net, failed, parcel, ("ends", triples, ranks), "ends")
        self.assertGreater(told.count(True), 60)
        self.assertGreater(told.count(False), 60)

    def test_rings_that_hold(self):
        for seed in range(200):
            chance, net, failed, parcel = some_case(seed)
            if for_ever(net, failed, parcel):
                word, taken, ring = ever_paper(net, failed, parcel)
                end = walked(net, failed, parcel, taken)
                self.assertEqual(plain.head_of_parcel(walked(net, failed, end, ring)), plain.head_of_parcel(end))
                self.good(net, failed, parcel, (word, taken, ring * 3))
                self.good(net, failed, parcel, (word, (*taken, *ring), ring))
                self.bad(net, failed, parcel, (word, taken, ()), "ever")


if __name__ == "__main__":
    unittest.main()
