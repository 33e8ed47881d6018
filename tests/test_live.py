"""Promises [60], [61], [62] and the interface of labelroads.live: parcels, their hopes, roads, rows and danger."""

import inspect
import random
import unittest

from labelroads import live as module
from labelroads.errors import BadChoices, BadFailed, BadHead, BadNet, BadNumber, BadParcel, BadRoad, TooGreat
from labelroads.live import MOST_PARCELS, Live, tried
from labelroads.nets import choices, fate
from labelroads.tops import heads_from
from labelroads.turning import with_row
from tests.leading import EVER, EXAMPLE, LOST, Case, story
from tests.samples import (
    NET, NO_HEADS, NO_NUMBERS, NO_PARCELS, NO_ROADS, ROWS, WRONG, all_heads, flat_net, little_net, some_groups,
    some_net, some_word, told_by,
)
from tests.test_turning import NO_GROUPS


class Names(unittest.TestCase):
    def test_number(self):
        self.assertEqual((MOST_PARCELS, MOST_PARCELS.__class__), (20, int))

    def test_methods_and_their_parameters(self):
        wanted = {
            "__init__": "net", "__len__": "", "__getitem__": "at", "__eq__": "other", "send": "parcel",
            "choices": "number", "hopes": "number", "way": "number", "step": "number choice", "fail": "road",
            "mend": "road", "put": "head groups", "drop": "head", "danger": "most", "undo": "", "redo": "",
            "copy": "", "trial": "",
        }
        for name, parameters in wanted.items():
            method = vars(Live)[name]
            self.assertTrue(inspect.isfunction(method), name)
            told = inspect.signature(method).parameters
            self.assertEqual(list(told), ["self", *parameters.split()])
            defaults = {key: one.default for key, one in told.items() if one.default is not inspect.Parameter.empty}
            self.assertEqual(defaults, {"choice": None} if name == "step" else {})
        self.assertEqual((Live.__module__, tried.__module__), ("labelroads.live", "labelroads.live"))
        self.assertEqual(list(inspect.signature(tried).parameters), ["live", "deed"])
        self.assertIs(module.Live, Live)

    def test_properties(self):
        live = Live(NET)
        for name in ("net", "failed"):
            self.assertIsInstance(vars(Live)[name], property)
            self.assertRaises(AttributeError, setattr, live, name, ())
            self.assertRaises(AttributeError, delattr, live, name)
        self.assertEqual((live.net, live.failed, len(live)), (NET, (), 0))

    def test_arguments_by_name(self):
        live = Live(net=EXAMPLE)
        self.assertEqual(live.send(parcel=(0, ("b",))), 0)
        self.assertEqual(live.choices(number=0), ((1, ()), (2, ("b",))))
        self.assertEqual(live.hopes(number=0), (LOST,))
        self.assertEqual(live.step(choice=(2, ("b",)), number=0), ("on", (2, ("b",))))
        self.assertEqual(live.way(number=0), ((0, ("b",)), (2, ("b",))))
        self.assertEqual(live.fail(road=1), ())
        self.assertEqual(live.mend(road=1), ())
        self.assertEqual(live.put(groups="home", head=(2, "b")), (0,))
        self.assertEqual(live.drop(head=(2, "b")), (0,))
        self.assertEqual(live.danger(most=0), (0,))
        self.assertEqual(tried(deed=len, live=live), 1)

    def test_example(self):
        rows = (((0, "a"), (((1, ("a",)),), ((2, ()),))), ((1, "a"), (((0, ("a",)),),)), ((2, ""), "home"))
        live = Live((((0, 1), (1, 0), (1, 2)), ("a",), rows))
        told = [live.send((0, ("a",))), live.hopes(0), live.fail(1), live.hopes(0)]
        self.assertEqual(told, [0, (EVER,), (0,), (("home", 2),)])
        self.assertEqual([live.step(0), live.mend(1), live.step(0)], [("on", (2, ())), (), ("home", 2)])


class Parcels(Case):
    def test_numbers(self):
        live = Live(EXAMPLE)
        for number in range(20):
            self.assertEqual(len(live), number)
            self.assertEqual(live.send((number % 3, ("a",) * number)), number)
        for number in range(20):
            self.assertEqual(live[number], ("on", (number % 3, ("a",) * number)))
            self.assertEqual(live.way(number), ((number % 3, ("a",) * number),))

    def test_twenty_and_one_more(self):
        live = Live(EXAMPLE)
        for number in range(20):
            live.send((0, ()))
        for turn in range(2):
            self.assertEqual(self.refused(live, TooGreat, "send", (0, ())).most, 20)
            # Parcels that have ended count, too.
            live.step(turn)
        for value in (None, (0, []), (3, ()), (0, ("d",)), (0, ("a",) * 3001)):
            self.assertIs(self.refused(live, BadParcel, "send", value).value, value)
        live.undo()
        live.undo()
        live.undo()
        self.assertEqual(live.send((1, ("b",))), 19)

    def test_no_parcels(self):
        live = Live(NET)
        live.send((0, ("a",)))
        for value in NO_PARCELS:
            self.assertIs(told_by(self, BadParcel, live.send, value).value, value)
        self.assertEqual((len(live), live[0]), (1, ("on", (0, ("a",)))))
        self.assertEqual(live.send((3, ("a",) * 3000)), 1)

    def test_ends(self):
        live = Live(EXAMPLE)
        for parcel in ((2, ()), (2, ("a",)), (0, ())):
            live.send(parcel)
        self.assertEqual([live.choices(number) for number in range(3)], [(), (), ()])
        self.assertEqual([live[number][0] for number in range(3)], ["on"] * 3)
        self.assertEqual(live.step(0), ("home", 2))
        self.assertEqual(live.step(1), ("lost", (2, ("a",))))
        self.assertEqual(live.step(2, None), ("lost", (0, ())))
        self.assertEqual([live[number] for number in range(3)], [("home", 2), ("lost", (2, ("a",))), ("lost", (0, ()))])
        self.assertEqual([live.hopes(number) for number in range(3)], [(("home", 2),), (LOST,), (LOST,)])
        self.assertEqual([live.way(number) for number in range(3)], [((2, ()),), ((2, ("a",)),), ((0, ()),)])
        for number in range(3):
            for choice in (None, (1, ()), 0):
                self.assertEqual(self.refused(live, BadNumber, "step", number, choice).value, number)

    def test_what_ended_stays_what_it_is(self):
        live = Live(EXAMPLE)
        for parcel in ((2, ()), (2, ("a",))):
            live.send(parcel)
        live.step(0)
        live.step(1)
        self.assertEqual(live.drop((2, "")), ())
        self.assertEqual(live.put((2, "a"), "home"), ())
        self.assertEqual(live.fail(2), ())
        self.assertEqual([live.hopes(number) for number in range(2)], [(("home", 2),), (LOST,)])
        self.assertEqual([live.choices(number) for number in range(2)], [(), ()])

    def test_steps(self):
        live = Live(EXAMPLE)
        live.send((0, ("b", "a")))
        self.assertEqual(live.choices(0), ((1, ()), (2, ("b",))))
        self.assertEqual(live.step(0), ("on", (1, ("a",))))
        self.assertEqual(live.step(0, (0, ("a",))), ("on", (0, ("a",))))
        self.assertEqual(live.step(0), ("on", (1, ("a",))))
        self.assertEqual(live.way(0), ((0, ("b", "a")), (1, ("a",)), (0, ("a",)), (1, ("a",))))
        live.undo()
        self.assertEqual((live[0], live.way(0)[-1]), (("on", (0, ("a",))), (0, ("a",))))

    def test_a_step_that_changes_nothing_is_one(self):
        net = (((0, 0),), ("a",), (((0, ""), (((0, ()),),)),))
        live = Live(net)
        live.send((0, ()))
        live.send((0, ()))
        for turn in range(5):
            self.assertEqual(live.step(0), ("on", (0, ())))
        self.assertEqual((live.way(0), live.way(1)), (((0, ()),) * 6, ((0, ()),)))

    def test_choices_that_cannot_be_taken_now(self):
        live = Live(NET)
        live.send((0, ("a", "b")))
        live.fail(1)
        free = ((3, ()),)
        self.assertEqual(live.choices(0), free)
        wrong = (
            *WRONG, (), (1, ("b",)), (1, ("a", "a")), (2, ()), (3, ("a",)), (3, []), [3, ()], (True, ()), (3,),
            (3, (), ()), free, "3", 3, "home",
        )
        for value in wrong:
            if value is not None:
                self.assertEqual(told_by(self, BadChoices, live.step, 0, value).place, 0)
        self.assertEqual(self.refused(live, BadChoices, "step", 0, (1, ("b",))).place, 0)
        self.assertEqual(live.step(0, (3, ())), ("on", (3, ("b",))))
        # Nor can a parcel that is lost or home next take one.
        for head in ((3, ""), (3, "b")):
            live = Live(NET)
            live.send((3, ("b",) if head[1] else ()))
            self.assertEqual(self.refused(live, BadChoices, "step", 0, (3, ())).place, 0)

    def test_the_greatest_stack(self):
        live = Live(EXAMPLE)
        live.send((0, ("c",) * 2999))
        live.send((1, ("c",) * 2998))
        live.send((1, ("c",) * 2999))
        self.assertEqual(live.step(0), ("on", (1, ("c",) * 3000)))
        self.assertEqual(live.choices(0), ((0, ()), (0, ("c", "c", "c"))))
        self.assertEqual(self.refused(live, TooGreat, "step", 0, (0, ("c", "c", "c"))).most, 3000)
        self.assertEqual(live.step(0), ("on", (0, ("c",) * 2999)))
        self.assertEqual(live.step(1, (0, ("c", "c", "c"))), ("on", (0, ("c",) * 3000)))
        self.assertEqual(self.refused(live, TooGreat, "step", 1).most, 3000)
        self.assertEqual(self.refused(live, TooGreat, "step", 2, (0, ("c", "c", "c"))).most, 3000)
        # A choice that cannot be taken is refused ahead of that, and so is a wrong number.
        self.refused(live, BadChoices, "step", 1, (1, ("c", "c", "c")))
        self.refused(live, BadNumber, "step", 3, (1, ("c", "c")))
        self.assertEqual([len(live.way(number)) for number in range(3)], [3, 2, 1])

    def test_a_road_that_fails_below_a_parcel(self):
        live = Live(EXAMPLE)
        live.send((1, ("a",)))
        live.fail(1)
        self.assertEqual(live.step(0), ("on", (0, ("a",))))
        self.assertEqual(live.step(0), ("on", (2, ())))
        self.assertEqual(live.step(0), ("home", 2))

    def test_wrong_numbers(self):
        live = Live(NET)
        calls = (live.choices, live.hopes, live.way, live.step, live.__getitem__)
        for many in range(3):
            for value in (*WRONG, many, many + 1, 20, -1, -2, "0", "", (), (0,), slice(0, 1), slice(None)):
                for call in calls:
                    self.assertIs(told_by(self, BadNumber, call, value).value, value)
                self.assertIs(told_by(self, BadNumber, live.step, value, (0, ())).value, value)
                with self.assertRaises(BadNumber) as caught:
                    live[value]
                self.assertIs(caught.exception.value, value)
            self.assertEqual(live.send((0, ())), many)


class Hopes(Case):
    def test_they_are_the_outcomes_now(self):
        live = Live(EXAMPLE)
        for parcel in ((0, ("a",)), (1, ("a",)), (0, ("b",)), (0, ("c",)), (2, ())):
            live.send(parcel)
        home = (("home", 2),)
        self.assertEqual([live.hopes(number) for number in range(5)], [(EVER,), (EVER,), (LOST,), (EVER,), home])
        self.assertEqual(live.fail(1), (0, 1, 3))
        self.assertEqual([live.hopes(number) for number in range(5)], [home, home, (LOST,), (LOST,), home])
        self.assertEqual(live.fail(2), (0, 1))
        self.assertEqual([live.hopes(number) for number in range(5)], [(LOST,)] * 4 + [home])
        self.assertEqual(live.failed, (1, 2))
        self.assertEqual(live.mend(1), (0, 1, 3))
        self.assertEqual((live.failed, live.hopes(0)), ((2,), (EVER,)))
        self.assertEqual(live.mend(2), ())

    def test_rows(self):
        live = Live(EXAMPLE)
        for parcel in ((0, ("a",)), (0, ("b",)), (1, ("a",)), (2, ("b",))):
            live.send(parcel)
        self.assertEqual(live.put((1, "a"), "home"), (0, 2))
        self.assertEqual(live.hopes(0), (("home", 0),))
        self.assertEqual(live.put((1, "a"), "home"), ())
        self.assertEqual(live.put((2, "b"), "home"), (1, 3))
        self.assertEqual(live.hopes(1), (("home", 2), LOST))
        self.assertEqual(live.drop((0, "b")), (1,))
        self.assertEqual(live.put((0, "b"), (((2, ("b",)),),)), (1,))
        self.assertEqual(live.drop((2, "")), ())
        self.assertEqual(live.drop((1, "a")), (0, 2))
        self.assertEqual([head for head, groups in live.net[2]], [(0, "a"), (0, "b"), (0, "c"), (1, "c"), (2, "b")])

    def test_a_parcel_that_is_lost_is_not_turned(self):
        """Its hopes would be others, if it were still on its road."""
        live = Live(EXAMPLE)
        live.send((2, ("b",)))
        live.send((2, ("b",)))
        live.step(0)
        self.assertEqual(live.put((2, "b"), "home"), (1,))

    def test_facts(self):
        """[62]: hopes ahead are those behind all choices together; a road that fails and is mended turns all back."""
        for seed in range(120):
            chance = random.Random(seed)
            live = Live((some_net, little_net, flat_net)[seed % 3](seed))
            for turn in range(4):
                live.send((chance.randrange(len(live.net[0])), some_word(chance, live.net[1], 3)))
            for number in range(4):
                ahead = live.hopes(number)
                behind = [tried(live, lambda same: (same.step(number, choice), same.hopes(number))[1])
                          for choice in live.choices(number)]
                if behind:
                    self.assertEqual(list(ahead), sorted({hope for hopes in behind for hope in hopes}))
                live.step(number)
                self.assertTrue(set(live.hopes(number)) <= set(ahead))
            told = [live.hopes(number) for number in range(4)]
            road = chance.randrange(len(live.net[0]))
            turned = live.fail(road)
            self.assertEqual(live.mend(road), turned)
            head = chance.choice(all_heads(live.net))
            groups = dict(live.net[2]).get(head)
            turned = live.put(head, "home")
            self.assertEqual(live.drop(head) if groups is None else live.put(head, groups), turned)
            self.assertEqual([live.hopes(number) for number in range(4)], told)

    def test_what_becomes_of_a_parcel_is_one_of_its_hopes(self):
        ended = 0
        for seed in range(80):
            chance = random.Random(seed)
            live = Live((some_net, little_net)[seed % 2](seed))
            live.send((chance.randrange(len(live.net[0])), some_word(chance, live.net[1], 3)))
            hopes = live.hopes(0)
            for turn in range(60):
                if live[0][0] != "on":
                    self.assertIn(live[0][:1] if live[0][0] == "lost" else live[0], hopes)
                    ended += 1
                    break
                live.step(0, chance.choice(live.choices(0) or (None,)))
        self.assertGreater(ended, 30)

    def test_heads_by_which_a_deed_makes_a_difference(self):
        """[62]: a parcel of which no such head can come, ahead and behind, is not turned."""
        turned = others = 0
        for seed in range(200):
            chance = random.Random(seed)
            live = Live((some_net, little_net)[seed % 2](seed))
            for turn in range(4):
                live.send((chance.randrange(len(live.net[0])), some_word(chance, live.net[1], 3)))
            head = chance.choice(all_heads(live.net))
            name, values = chance.choice((
                ("fail", (chance.randrange(len(live.net[0])),)),
                ("put", (head, some_groups(chance, live.net[0], live.net[1], head[0]))),
            ))
            ahead = (live.net, live.failed)
            told = getattr(live, name)(*values)
            behind = (live.net, live.failed)
            for number in range(4):
                heads = [heads_from(*when, live[number][1]) for when in (ahead, behind)]
                differs = any(
                    choices(*ahead, one) != choices(*behind, one) or fate(*ahead, one) != fate(*behind, one)
                    for one in {*heads[0], *heads[1]}
                )
                self.assertTrue(differs or number not in told)
                others += not differs
            turned += len(told)
        self.assertGreater(min(turned, others), 60)


class Roads(Case):
    def test_failed_roads_ascend(self):
        live = Live(NET)
        for road, failed in ((2, (2,)), (0, (0, 2)), (3, (0, 2, 3)), (1, (0, 1, 2, 3))):
            live.fail(road)
            self.assertEqual(live.failed, failed)
        for road, failed in ((2, (0, 1, 3)), (0, (1, 3)), (1, (3,)), (3, ())):
            live.mend(road)
            self.assertEqual(live.failed, failed)

    def test_twice_and_without_having_failed(self):
        live = Live(NET)
        for road in range(4):
            self.assertEqual(self.refused(live, BadFailed, "mend", road).value, road)
            live.fail(road)
            self.assertEqual(self.refused(live, BadFailed, "fail", road).value, road)
        live.mend(2)
        self.assertEqual(self.refused(live, BadFailed, "mend", 2).value, 2)
        live.undo()
        self.assertEqual(self.refused(live, BadFailed, "fail", 2).value, 2)

    def test_no_roads(self):
        live = Live(NET)
        live.fail(0)
        for value in NO_ROADS:
            self.assertIs(told_by(self, BadRoad, live.fail, value).value, value)
            self.assertIs(told_by(self, BadRoad, live.mend, value).value, value)
        self.assertEqual(live.failed, (0,))


class Rows(Case):
    def test_put_and_drop(self):
        live = Live(NET)
        live.put((0, "a"), "home")
        self.assertEqual(live.net, with_row(NET, (0, "a"), "home"))
        live.put((3, "b"), "home")
        self.assertEqual(live.net[2][-1], ((3, "b"), "home"))
        live.drop((0, "a"))
        self.assertEqual(live.net, with_row(with_row(NET, (0, "a"), None), (3, "b"), "home"))
        live.drop((3, "b"))
        live.put((0, "a"), dict(ROWS)[(0, "a")])
        self.assertEqual(live.net, NET)

    def test_as_it_is(self):
        live = Live(NET)
        live.send((0, ("a",)))
        for head, groups in ROWS:
            self.assertEqual(live.put(head, groups), ())
            self.assertEqual(live.net, NET)
        self.assertEqual(story(live)[0], 1 + len(ROWS))

    def test_no_rows(self):
        live = Live(NET)
        live.send((0, ("a",)))
        for value in (*NO_GROUPS, None):
            for head, place in (((0, ""), 0), ((0, "a"), 1), ((0, "b"), 2)):
                self.assertEqual(told_by(self, BadNet, live.put, head, value).place, ("rows", place))
        self.assertEqual(self.refused(live, BadNet, "put", (3, "b"), ()).place, ("rows", 7))
        self.assertEqual(self.refused(live, BadNet, "put", (2, "a"), (((1, ()),),)).place, ("rows", 5))
        self.assertEqual(live.net, NET)

    def test_drop_of_a_head_without_a_row(self):
        live = Live(NET)
        for head in ((1, ""), (2, ""), (2, "b"), (3, "a"), (3, "b")):
            self.assertEqual(self.refused(live, BadHead, "drop", head).value, head)
        live.drop((3, ""))
        self.assertEqual(self.refused(live, BadHead, "drop", (3, "")).value, (3, ""))

    def test_no_heads(self):
        live = Live(NET)
        for value in NO_HEADS:
            self.assertIs(told_by(self, BadHead, live.drop, value).value, value)
            for groups in ("home", None, (), value):
                self.assertIs(told_by(self, BadHead, live.put, value, groups).value, value)
        self.assertEqual(story(live), (0, [(NET, (), [], [])]))


class Danger(Case):
    def live(self):
        roads = ((0, 0), (0, 1), (0, 2), (0, 3), (3, 3))
        rows = (
            ((0, "a"), (((1, ()),),)),
            ((0, "b"), (((1, ()),), ((2, ()),))),
            ((0, "c"), (((1, ()),), ((2, ()),), ((3, ()),))),
            ((1, ""), "home"), ((2, ""), "home"), ((3, ""), "home"),
        )
        live = Live((roads, ("a", "b", "c", "d"), rows))
        for parcel in ((0, ("d",)), (0, ("a",)), (0, ("b",)), (0, ("c",)), (1, ()), (2, ("a",))):
            live.send(parcel)
        return live

    def test_0_1_and_2(self):
        live = self.live()
        self.assertEqual([live.danger(most) for most in range(3)], [(0, 5), (0, 1, 5), (0, 1, 2, 5)])

    def test_further_roads(self):
        live = self.live()
        live.fail(1)
        self.assertEqual([live.danger(most) for most in range(3)], [(0, 1, 5), (0, 1, 2, 5), (0, 1, 2, 3, 5)])
        live.fail(4)
        self.assertEqual([live.danger(most) for most in range(3)], [(0, 1, 5), (0, 1, 2, 5), (0, 1, 2, 3, 5)])
        live.fail(2)
        self.assertEqual([live.danger(most) for most in range(3)], [(0, 1, 2, 5), (0, 1, 2, 3, 5), (0, 1, 2, 3, 5)])

    def test_parcels_that_have_ended(self):
        live = self.live()
        self.assertEqual([live.step(number)[0] for number in (0, 4, 5)], ["lost", "home", "lost"])
        self.assertEqual([live.danger(most) for most in range(3)], [(0, 5), (0, 1, 5), (0, 1, 2, 5)])
        live.put((2, "a"), "home")
        live.drop((1, ""))
        self.assertEqual(live.danger(0), (0, 1, 2, 3, 5))

    def test_what_a_failed_road_prevents(self):
        """A parcel can be lost as it is, but not if a road fails: fewer failed roads count, too."""
        net = (((0, 0), (0, 1), (0, 2)), ("a",), (((0, "a"), (((1, ()),), ((2, ()),))), ((2, ""), "home")))
        live = Live(net)
        live.send((0, ("a",)))
        self.assertEqual([live.danger(most) for most in range(3)], [(0,), (0,), (0,)])
        self.assertEqual(live.fail(1), (0,))
        self.assertEqual([live.danger(most) for most in range(3)], [(), (0,), (0,)])

    def test_it_is_no_deed(self):
        live = self.live()
        ahead = story(live)
        for most in range(3):
            live.danger(most)
        self.assertEqual(story(live), ahead)
        self.assertEqual(Live(NET).danger(2), ())

    def test_numbers(self):
        live = self.live()
        for value in NO_NUMBERS:
            self.assertIs(told_by(self, BadNumber, live.danger, value).value, value)


if __name__ == "__main__":
    unittest.main()
