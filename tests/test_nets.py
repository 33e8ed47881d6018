"""Promises [10], [11], [13] and the interface of labelroads.nets; [0] to [4] for it."""

import inspect
import itertools
import random
import unittest

from labelroads import nets
from labelroads.errors import BadFailed, BadHead, BadNet, BadNumber
from labelroads.nets import choices, fate, failures, heads, need_net
from tests.samples import (
    LABELS, NET, NO_FAILED, NO_NUMBERS, ROADS, ROWS, SMALL, WRONG, all_heads, fault_place, nested, places, put_at,
    some_failed, some_net, told_by,
)

LOOP = ((0, 0),)
# Calls of every function of this file, of nets.
CALLS = (
    (need_net, ()),
    (heads, ()),
    (choices, ((), (0, ""))),
    (fate, ((), (0, ""))),
    (failures, (0,)),
)


def with_groups(groups, head=(0, "a")):
    """NET, but with this one row alone."""
    return (ROADS, LABELS, ((head, groups),))


class Names(unittest.TestCase):
    def test_numbers(self):
        told = (nets.MOST_ROADS, nets.MOST_LABELS, nets.MOST_FAILED)
        self.assertEqual(told, (10, 4, 2))
        self.assertEqual([number.__class__ for number in told], [int, int, int])

    def test_functions_and_their_parameters(self):
        wanted = {
            need_net: ["net"],
            heads: ["net"],
            choices: ["net", "failed", "head"],
            fate: ["net", "failed", "head"],
            failures: ["net", "most"],
        }
        for function, names in wanted.items():
            self.assertEqual(list(inspect.signature(function).parameters), names)
            self.assertEqual(function.__module__, "labelroads.nets")

    def test_arguments_by_name(self):
        self.assertIs(need_net(net=NET), NET)
        self.assertEqual(heads(net=SMALL), ((0, ""), (0, "a")))
        self.assertEqual(choices(head=(0, ""), failed=(), net=NET), choices(NET, (), (0, "")))
        self.assertEqual(fate(head=(0, "b"), failed=(), net=NET), "home")
        self.assertEqual(failures(most=0, net=NET), ((),))


class NeedNet(unittest.TestCase):
    def good(self, net):
        self.assertIs(need_net(net), net)

    def bad(self, net, *place):
        for call, others in CALLS:
            self.assertEqual(told_by(self, BadNet, call, net, *others).place, place)

    def test_itself(self):
        for net in (NET, SMALL, *[some_net(seed) for seed in range(300)]):
            self.good(net)

    def test_no_tuple_of_three(self):
        for value in (*WRONG, "net", (), NET[:2], (*NET, ()), list(NET), {0: NET}, NET[::-1][:1], "abc", b"abc"):
            self.bad(value)

    def test_no_roads(self):
        for roads in ((), ((0, 0),) * 11, [(0, 0)], "road", b"01", None, {0: 1}, 1):
            self.bad((roads, LABELS, ()), "roads")

    def test_1_and_10_roads(self):
        for many in (1, 2, 9, 10):
            self.good((((7, 0),) * many, LABELS, ()))

    def test_no_road(self):
        wrong = (*WRONG, (), (0,), (0, 1, 2), (8, 0), (0, 8), (-1, 0), (0, -1), (True, 0), (0, False), ("0", 0))
        wrong = (*wrong, [0, 1], (0, None), (b"0", 1), ((0,), 1), (10**999, 0), "01", b"01")
        for value in wrong:
            for place in range(4):
                self.bad((put_at(ROADS, (place,), value), LABELS, ROWS), "roads", place)

    def test_houses_from_0_to_7(self):
        for way in itertools.product(range(8), repeat=2):
            self.good(((way,), LABELS, ()))

    def test_no_labels(self):
        for labels in ((), ("a", "b", "c", "d", "e"), ["a"], "a", b"a", {"a": 1}, None, 1):
            self.bad((ROADS, labels, ()), "labels")

    def test_1_and_4_labels(self):
        for labels in (("a",), ("d", "c", "a", "b")):
            self.good((ROADS, labels, ()))

    def test_words_of_1_and_8_letters(self):
        for word in ("a", "z", "abcdefgh", "zzzzzzzz", "anyone", "al", "alll", "home", "lost"):
            self.good((ROADS, (word,), ()))

    def test_no_label(self):
        wrong = (*WRONG, "", "abcdefghi", "A", "aB", "a ", " a", "a\n", "\na", "a1", "1", "-", "a-b", "`", "{", "any")
        for value in (*wrong, "all", b"b", ("a",), ["a"], "z" * 1000):
            self.bad((ROADS, (value,), ()), "labels", 0)
            self.bad((ROADS, ("q", value), ()), "labels", 1)
            self.bad((ROADS, ("q", "r", "s", value), ()), "labels", 3)

    def test_a_label_that_stands_ahead(self):
        self.bad((ROADS, ("a", "a"), ()), "labels", 1)
        self.bad((ROADS, ("a", "b", "c", "b"), ()), "labels", 3)
        self.bad((ROADS, ("a", "b", "a", "b"), ()), "labels", 2)

    def test_no_rows(self):
        for rows in ([], list(ROWS), "", "home", b"", None, {}, 0):
            self.bad((ROADS, LABELS, rows), "rows")

    def test_as_many_rows_as_heads(self):
        for net in (SMALL, NET, (((5, 5),) * 10, ("d", "c", "b", "a"), ())):
            rows = tuple((head, "home") for head in all_heads(net))
            full = (net[0], net[1], rows)
            self.good(full)
            self.bad((net[0], net[1], (*rows, rows[-1])), "rows")
            self.bad((net[0], net[1], (*rows, None)), "rows")
            self.bad((net[0], net[1], (None, *rows)), "rows")

    def test_no_row(self):
        row = ((0, "a"), "home")
        wrong = (*WRONG, (), row[:1], (*row, "home"), list(row), row[::-1], "ab", b"ab")
        for value in wrong:
            for place in range(len(ROWS)):
                self.bad((ROADS, LABELS, put_at(ROWS, (place,), value)), "rows", place)

    def test_no_head_of_a_row(self):
        wrong = (*WRONG, (), (0,), (0, "a", "a"), (4, "a"), (-1, "a"), (True, "a"), (False, ""), ("0", "a"), [0, "a"])
        for head in (*wrong, (0, "c"), (0, "any"), (0, "all"), (0, None), (0, b"a"), (0, b""), (0, ()), (0, "-"), "0a"):
            self.bad((ROADS, LABELS, ((head, "home"),)), "rows", 0)
            self.bad((ROADS, LABELS, (ROWS[0], (head, "home"))), "rows", 1)

    def test_a_head_without_a_label(self):
        self.good((ROADS, LABELS, (((3, ""), "home"),)))
        self.good((ROADS, LABELS, (((0, ""), (((1, ()),),)),)))

    def test_rows_out_of_order_and_doubled(self):
        for place in range(len(ROWS) - 1):
            swapped = (*ROWS[:place], ROWS[place + 1], ROWS[place], *ROWS[place + 2 :])
            self.bad((ROADS, LABELS, swapped), "rows", place + 1)
            doubled = (*ROWS[: place + 1], ROWS[place], *ROWS[place + 1 :])
            self.bad((ROADS, LABELS, doubled), "rows", place + 1)
        self.bad((ROADS, LABELS, (((0, "a"), "home"), ((0, "a"), (((1, ()),),)))), "rows", 1)

    def test_rows_are_ordered_as_strings_not_as_labels(self):
        self.good((LOOP, ("b", "a"), (((0, "a"), "home"), ((0, "b"), "home"))))
        self.bad((LOOP, ("b", "a"), (((0, "b"), "home"), ((0, "a"), "home"))), "rows", 1)

    def test_no_groups(self):
        choice = (1, ())
        wrong = (*WRONG, (), "", "goes", "lost", "hom", b"home", ("home",), [((1, ()),)], choice, (choice,), "homehome")
        for groups in (*wrong, (((1, ()),), "home"), (((1, ()),),) * 4, 0, 1):
            self.bad(with_groups(groups), "rows", 0)

    def test_1_and_3_groups(self):
        group = ((1, ()),)
        for many in (1, 2, 3):
            self.good(with_groups((group,) * many))
        self.bad(with_groups((group,) * 4), "rows", 0)

    def test_no_group(self):
        for group in (*WRONG, (), ((1, ()),) * 2, [(1, ())], "home", (1, ()), 1):
            self.bad(with_groups((group,)), "rows", 0)
            self.bad(with_groups((((1, ()),), group)), "rows", 0)
            self.bad(with_groups((((1, ()),), ((2, ()),), group)), "rows", 0)

    def test_1_and_3_choices_in_a_group(self):
        wanted = ((1, ("a",)), (1, ()), (2, ()), (3, ()))
        for many in (1, 2, 3):
            self.good(with_groups((wanted[:many],)))
        self.bad(with_groups((wanted,)), "rows", 0)

    def test_the_same_choice_twice_in_a_group(self):
        first, second = (1, ("a", "b")), (2, ())
        for group in ((first, first), (first, second, first), (second, first, first)):
            self.bad(with_groups((group,)), "rows", 0)
        self.good(with_groups(((first,), (first,), (second, first))))
        self.good(with_groups((((1, ("a", "b")), (1, ("b", "a"))),)))

    def test_no_choice(self):
        wrong = (*WRONG, (), (1,), (1, (), ()), [1, ()], (1, []), (1, None), (1, "a"), (1, ""), (1, "home"), (1, b"a"))
        for choice in (*wrong, (4, ()), (-1, ()), (True, ()), (False, ()), ("1", ()), (None, ()), 1, "1"):
            self.bad(with_groups(((choice,),)), "rows", 0)
            self.bad(with_groups((((1, ()), choice),)), "rows", 0)

    def test_an_out_that_does_not_leave_the_house(self):
        for road, out in itertools.product(range(4), repeat=2):
            net = with_groups((((out, ()),),), (road, "a"))
            if ROADS[out][0] == ROADS[road][1]:
                self.good(net)
            else:
                self.bad(net, "rows", 0)

    def test_words_of_3_and_4_labels(self):
        for many in range(4):
            self.good(with_groups((((1, ("a",) * many),),)))
        self.bad(with_groups((((1, ("a",) * 4),),)), "rows", 0)

    def test_no_label_in_a_word(self):
        for label in (*WRONG, "", "c", "any", "all", b"a", ("a",), 0):
            for place in range(3):
                word = put_at(("a", "b", "a"), (place,), label)
                self.bad(with_groups((((1, word),),)), "rows", 0)

    def test_a_wrong_value_in_each_place(self):
        for path in places(NET):
            for value in WRONG:
                self.bad(put_at(NET, path, value), *fault_place(path, value))

    def test_several_wrong_values_at_once(self):
        chance = random.Random(1)
        order = {"roads": 0, "labels": 1, "rows": 2}
        paths = [path for path in places(NET) if len(path) > 1]
        for turn in range(3000):
            first, second = chance.choice(paths), chance.choice(paths)
            if first[: len(second)] == second or second[: len(first)] == first:
                continue
            told = [fault_place(path, None) for path in (first, second)]
            net = put_at(put_at(NET, first, chance.choice(WRONG)), second, chance.choice(WRONG))
            self.bad(net, *min(told, key=lambda place: (order[place[0]], place[1])))

    def test_the_first_fault_is_told(self):
        self.bad((None, None, None), "roads")
        self.bad((LOOP, None, None), "labels")
        self.bad((LOOP, ("a",), None), "rows")
        self.bad(((None, None), ("any",), (None,)), "roads", 0)
        self.bad((LOOP, ("any", "a", "a"), (None,)), "labels", 0)
        self.bad((LOOP, ("a", "a", "all"), None), "labels", 1)
        self.bad((LOOP, ("a",), (((0, "a"), "home"), ((0, ""), "home"), None)), "rows")
        self.bad(((*LOOP, (0, 0)), ("a",), (((0, "a"), "home"), ((0, ""), "home"), None)), "rows", 1)

    def test_deep_values(self):
        self.bad((nested(48), LABELS, ROWS), "roads", 0)
        self.bad((ROADS, nested(48), ROWS), "labels", 0)
        self.bad((ROADS, LABELS, nested(48)), "rows", 0)


class Heads(unittest.TestCase):
    def test_example(self):
        self.assertEqual(heads((((0, 0), (1, 1)), ("b", "a"), ())), (
            (0, ""), (0, "a"), (0, "b"), (1, ""), (1, "a"), (1, "b"),
        ))

    def test_all_nets(self):
        for seed in range(100):
            net = some_net(seed)
            told = heads(net)
            self.assertIsInstance(told, tuple)
            self.assertEqual(list(told), all_heads(net))
            self.assertEqual(told, heads(net))


def choices_by_promise(net, failed, head):
    """Promise [13] once more, word by word."""
    groups = dict(net[2]).get(head)
    if groups is None or groups == "home":
        return ()
    for group in groups:
        if set(out for out, word in group) - set(failed):
            return tuple(sorted(choice for choice in group if choice[0] not in failed))
    return ()


class Choices(unittest.TestCase):
    def test_the_first_group_with_a_road(self):
        self.assertEqual(choices(NET, (), (0, "a")), ((1, ("a", "a")), (1, ("b",)), (3, ())))
        self.assertEqual(choices(NET, (1,), (0, "a")), ((3, ()),))
        self.assertEqual(choices(NET, (3,), (0, "a")), ((1, ("a", "a")), (1, ("b",))))
        self.assertEqual(choices(NET, (1, 3), (0, "a")), ((2, ()),))
        self.assertEqual(choices(NET, (1, 2, 3), (0, "a")), ())

    def test_a_later_group_in_part(self):
        groups = (((1, ()),), ((3, ()), (1, ("b",)), (2, ("a",))))
        self.assertEqual(choices(with_groups(groups), (1,), (0, "a")), ((2, ("a",)), (3, ())))
        self.assertEqual(choices(with_groups(groups), (1, 3), (0, "a")), ((2, ("a",)),))

    def test_a_head_without_a_label(self):
        self.assertEqual(choices(NET, (), (0, "")), ((1, ()), (3, ("a", "b", "a"))))
        self.assertEqual(choices(NET, (1, 3), (0, "")), ((2, ("b",)),))

    def test_none(self):
        self.assertEqual(choices(NET, (), (0, "b")), ())
        self.assertEqual(choices(NET, (), (3, "a")), ())
        self.assertEqual(choices(NET, (0, 1, 2, 3), (0, "")), ())

    def test_the_road_itself_may_have_failed(self):
        self.assertEqual(choices(NET, (0,), (0, "")), choices(NET, (), (0, "")))
        self.assertEqual(fate(NET, (0,), (0, "b")), "home")

    def test_all_nets(self):
        chance = random.Random(2)
        for seed in range(150):
            net = some_net(seed)
            for failed in ((), some_failed(chance, net), some_failed(chance, net), tuple(range(len(net[0])))):
                for head in all_heads(net):
                    wanted = choices_by_promise(net, failed, head)
                    told = choices(net, failed, head)
                    self.assertIsInstance(told, tuple)
                    self.assertEqual(told, wanted)
                    lone = "goes" if wanted else "lost"
                    self.assertEqual(fate(net, failed, head), "home" if (head, "home") in net[2] else lone)


class Fate(unittest.TestCase):
    def test_fates(self):
        self.assertEqual(fate(NET, (), (0, "b")), "home")
        self.assertEqual(fate(NET, (0, 1, 2, 3), (0, "b")), "home")
        self.assertEqual(fate(NET, (), (0, "a")), "goes")
        self.assertEqual(fate(NET, (1, 3), (0, "a")), "goes")
        self.assertEqual(fate(NET, (1, 2, 3), (0, "a")), "lost")
        self.assertEqual(fate(NET, (), (3, "a")), "lost")


class Refusals(unittest.TestCase):
    """Of choices and fate: BadNet, then BadFailed, then BadHead."""

    def test_no_failed_roads(self):
        for failed in (*NO_FAILED, "0", (0, 1, 1), ((0,),), (0, None)):
            for head in ((0, ""), None, (0, "c")):
                for call in (choices, fate):
                    self.assertIs(told_by(self, BadFailed, call, NET, failed, head).value, failed)

    def test_all_failed_roads(self):
        for size in range(5):
            for failed in itertools.combinations(range(4), size):
                self.assertEqual(fate(NET, failed, (3, "")), "home")

    def test_no_head(self):
        wrong = (*WRONG, (), (0,), (4, ""), (-1, "a"), (True, "a"), (False, ""), (0, "c"), (0, "any"), (0, "all"))
        for head in (*wrong, (0, None), (0, b"a"), (0, b""), [0, "a"], (0, "a", "b"), "", "a", 0, (0, ("a",)), (0, ())):
            for call in (choices, fate):
                self.assertIs(told_by(self, BadHead, call, NET, (), head).value, head)

    def test_the_net_ahead_of_all(self):
        for call in (choices, fate):
            self.assertEqual(told_by(self, BadNet, call, None, None, None).place, ())
            self.assertEqual(told_by(self, BadNet, call, (ROADS, LABELS, None), (9,), (9, "a")).place, ("rows",))
        self.assertEqual(told_by(self, BadNet, failures, None, None).place, ())


class Failures(unittest.TestCase):
    def test_example(self):
        net = (((0, 0),) * 3, ("a",), ())
        self.assertEqual(failures(net, 0), ((),))
        self.assertEqual(failures(net, 1), ((), (0,), (1,), (2,)))
        self.assertEqual(failures(net, 2), ((), (0,), (1,), (2,), (0, 1), (0, 2), (1, 2)))

    def test_one_road(self):
        self.assertEqual(failures(SMALL, 2), ((), (0,)))

    def test_all_numbers(self):
        for many in range(1, 11):
            net = (((0, 0),) * many, ("a",), ())
            for most in range(3):
                wanted = [way for size in range(most + 1) for way in itertools.combinations(range(many), size)]
                self.assertEqual(failures(net, most), tuple(wanted))

    def test_no_number(self):
        for most in NO_NUMBERS:
            self.assertIs(told_by(self, BadNumber, failures, NET, most).value, most)


class Unchanged(unittest.TestCase):
    def test_wrong_lists_stay_what_they_are(self):
        failed, head, net = [0], [0, "a"], [list(ROADS), list(LABELS), list(ROWS)]
        told_by(self, BadFailed, choices, NET, failed, head)
        told_by(self, BadHead, choices, NET, (), head)
        told_by(self, BadNet, heads, net)
        self.assertEqual((failed, head), ([0], [0, "a"]))
        self.assertEqual(net, [list(ROADS), list(LABELS), list(ROWS)])


if __name__ == "__main__":
    unittest.main()
