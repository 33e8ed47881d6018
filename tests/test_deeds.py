"""The interface of labelroads.live: what is taken back and done again, copies, trials, and [2] to [4] for it."""

import operator
import random
import unittest

from labelroads.desk import Desk
from labelroads.errors import BadNet, BadRoad, TooGreat
from labelroads.live import Live, tried
from tests.leading import EXAMPLE, Case, Plain, seen, some_deed, story, told_of
from tests.samples import (
    NET, ROWS, SMALL, WRONG, Agreeing, Breaking, fault_place, flat_net, little_net, places, put_at, some_net, told_by,
)


class Deeds(Case):
    def test_all_that_is_done(self):
        """A live net and one by the words of the promises, led by the same deeds, also by such as are refused."""
        names = {}
        for seed in range(150):
            chance = random.Random(seed)
            net = (some_net, little_net, flat_net)[seed % 3](seed)
            live, plain = Live(net), Plain(net)
            for turn in range(40):
                name, values = some_deed(chance, live)
                told = told_of(live, name, values)
                self.assertEqual(told, told_of(plain, name, values), (name, values))
                self.same(live, plain)
                names[name] = names.get(name, 0) + 1
        self.assertGreater(min(names.values()), 100)

    def same(self, live, plain):
        net, failed, parcels = plain.now
        self.assertEqual(seen(live), (net, failed, [place for place, way in parcels], [way for place, way in parcels]))
        numbers = range(len(parcels))
        self.assertEqual([live.hopes(number) for number in numbers], plain.all_hopes())
        self.assertEqual([live.choices(number) for number in numbers], [plain.choices(number) for number in numbers])

    def test_at_the_beginning(self):
        live = Live(NET)
        for turn in range(3):
            self.assertIs(live.undo(), False)
            self.assertIs(live.redo(), False)
        live.send((0, ()))
        self.assertIs(live.redo(), False)
        self.assertIs(live.undo(), True)
        self.assertIs(live.undo(), False)
        self.assertEqual(seen(live), (NET, (), [], []))
        self.assertIs(live.redo(), True)
        self.assertIs(live.redo(), False)
        self.assertEqual(seen(live), (NET, (), [("on", (0, ()))], [((0, ()),)]))

    def test_each_deed(self):
        for name, values in (
            ("send", ((0, ("a",)),)), ("step", (0,)), ("step", (1, (3, ()))), ("step", (2,)), ("fail", (1,)),
            ("mend", (0,)), ("put", ((0, "a"), "home")), ("put", ((1, ""), "home")), ("drop", ((0, "a"),)),
        ):
            live = Live(NET)
            for parcel in ((0, ("a",)), (0, ("a",)), (3, ())):
                live.send(parcel)
            live.fail(0)
            ahead = seen(live)
            told = getattr(live, name)(*values)
            behind = seen(live)
            self.assertNotEqual(behind, ahead)
            self.assertIs(live.undo(), True)
            self.assertEqual(seen(live), ahead)
            self.assertIs(live.redo(), True)
            self.assertEqual(seen(live), behind)
            live.undo()
            self.assertEqual(getattr(live, name)(*values), told)
            self.assertEqual(seen(live), behind)

    def test_hundreds_of_deeds(self):
        live = Live(EXAMPLE)
        chance = random.Random(1)
        all_seen = [seen(live)]
        while len(all_seen) < 600:
            name, values = some_deed(chance, live)
            if name not in ("undo", "redo", "danger"):
                told = told_of(live, name, values)
                if not (isinstance(told, tuple) and told and isinstance(told[0], type)):
                    all_seen.append(seen(live))
        for turn in range(2):
            for ahead in all_seen[-2::-1]:
                self.assertIs(live.undo(), True)
                self.assertEqual(seen(live), ahead)
            self.assertIs(live.undo(), False)
            for behind in all_seen[1:]:
                self.assertIs(live.redo(), True)
                self.assertEqual(seen(live), behind)
            self.assertIs(live.redo(), False)

    def test_thousands_of_steps(self):
        live = Live(EXAMPLE)
        live.send((0, ("a",)))
        for turn in range(3000):
            live.step(0)
        self.assertEqual(live.way(0), (((0, ("a",)), (1, ("a",))) * 1501)[:3001])
        other = live.copy()
        self.assertIs(live == other, True)
        while live.undo():
            pass
        self.assertEqual(len(live), 0)
        while live.redo():
            pass
        self.assertIs(live == other, True)

    def test_behind_another_deed(self):
        """Nothing is done again when something else was done since."""
        for name, values in (
            ("send", ((0, ()),)), ("step", (0,)), ("fail", (0,)), ("mend", (1,)), ("put", ROWS[1]),
            ("drop", ((0, "a"),)),
        ):
            live = Live(NET)
            live.send((0, ("a",)))
            live.fail(1)
            live.fail(3)
            live.fail(2)
            live.undo()
            live.undo()
            getattr(live, name)(*values)
            self.assertIs(live.redo(), False)
            self.assertEqual(story(live)[0], 3)
            live.undo()
            self.assertEqual(live.failed, (1,))
            self.assertIs(live.redo(), True)
            self.assertIs(live.redo(), False)

    def test_behind_a_refusal_and_questions(self):
        live = Live(NET)
        live.send((0, ("a",)))
        live.fail(1)
        live.undo()
        for name, values in (
            ("send", (None,)), ("step", (1,)), ("step", (0, (2, ()))), ("fail", (4,)), ("mend", (1,)), ("put", (0, 0)),
            ("put", ((0, "a"), ())), ("drop", ((1, ""),)), ("danger", (3,)), ("hopes", (1,)), ("way", (1,)),
            ("choices", (1,)),
        ):
            self.refused(live, told_of(live, name, values)[0], name, *values)
        for told in (live.danger(2), live.hopes(0), live.way(0), live.choices(0), live[0], len(live), live.copy()):
            self.assertIsNotNone(told)
        self.assertIs(live.redo(), True)
        self.assertEqual(live.failed, (1,))


class Copies(Case):
    def test_they_go_on_by_themselves(self):
        live = Live(EXAMPLE)
        live.send((0, ("a",)))
        live.step(0)
        other = live.copy()
        self.assertIsInstance(other, Live)
        self.assertIsNot(other, live)
        self.assertIs(other == live, True)
        ahead = story(live)
        other.step(0)
        other.fail(1)
        other.send((0, ()))
        other.put((0, ""), "home")
        self.assertEqual(story(live), ahead)
        self.assertIs(other == live, False)
        later = story(other)
        live.undo()
        live.undo()
        live.drop((0, "a"))
        self.assertEqual(story(other), later)

    def test_with_all_that_can_be_taken_back_and_done_again(self):
        live = Live(EXAMPLE)
        for parcel in ((0, ("a",)), (1, ("b",)), (2, ("c",))):
            live.send(parcel)
        live.undo()
        other = live.copy()
        self.assertEqual(story(other), story(live))
        self.assertIs(other.redo(), True)
        self.assertEqual((len(other), len(live)), (3, 2))
        self.assertEqual(story(other)[1], story(live)[1])
        for turn in range(3):
            self.assertIs(other.undo(), True)
        self.assertIs(other.undo(), False)
        other.fail(0)
        self.assertIs(other.redo(), False)
        self.assertIs(live.redo(), True)


class Trials(Case):
    def live(self):
        live = Live(EXAMPLE)
        live.send((0, ("a",)))
        live.step(0)
        live.fail(2)
        live.undo()
        return live

    def test_the_block_gets_the_live_net_itself(self):
        live = self.live()
        with live.trial() as same:
            self.assertIs(same, live)
            live.step(0)
            self.assertEqual(len(live.way(0)), 3)

    def test_when_it_ends_by_itself(self):
        live = self.live()
        ahead = story(live)
        with live.trial():
            live.send((0, ()))
            live.fail(1)
            live.drop((2, ""))
            self.assertEqual((len(live), live.failed), (2, (1,)))
        self.assertEqual(story(live), ahead)
        self.assertIs(live.redo(), True)
        self.assertEqual(live.failed, (2,))

    def test_when_it_ends_by_an_exception(self):
        live = self.live()
        ahead = story(live)
        for error in (BadRoad(7), TooGreat(20), KeyError("x"), ZeroDivisionError(), KeyboardInterrupt()):
            with self.assertRaises(error.__class__) as caught:
                with live.trial() as same:
                    same.fail(1)
                    raise error
            self.assertIs(caught.exception, error)
            self.assertEqual(story(live), ahead)
        with self.assertRaises(BadRoad):
            with live.trial() as same:
                same.step(0)
                same.fail(7)
        self.assertEqual(story(live), ahead)

    def test_a_block_that_is_left(self):
        live = self.live()
        ahead = story(live)

        def leave():
            with live.trial() as same:
                return same.step(0)

        self.assertEqual(leave(), ("on", (0, ("a",))))
        for turn in range(2):
            with live.trial() as same:
                same.fail(1)
                continue
        self.assertEqual(story(live), ahead)

    def test_beyond_the_beginning(self):
        live = self.live()
        ahead = story(live)
        with live.trial():
            while live.undo():
                pass
            self.assertEqual(len(live), 0)
        self.assertEqual(story(live), ahead)
        with live.trial():
            live.undo()
            live.undo()
            live.send((1, ("b",)))
            self.assertIs(live.redo(), False)
        self.assertEqual(story(live), ahead)
        with live.trial():
            self.assertIs(live.redo(), True)
        self.assertEqual(story(live), ahead)

    def test_one_in_another(self):
        live = self.live()
        ahead = story(live)
        with live.trial():
            live.fail(1)
            between = story(live)
            with live.trial() as same:
                same.undo()
                same.undo()
                same.send((0, ()))
                with self.assertRaises(ValueError):
                    with same.trial():
                        same.undo()
                        raise ValueError
            self.assertEqual(story(live), between)
            live.mend(1)
        self.assertEqual(story(live), ahead)

    def test_it_is_what_it_was_when_the_block_began(self):
        live = self.live()
        trial = live.trial()
        live.fail(1)
        ahead = story(live)
        with trial:
            live.mend(1)
        self.assertEqual(story(live), ahead)
        live.send((0, ()))
        ahead = story(live)
        with trial:
            live.undo()
        self.assertEqual(story(live), ahead)

    def test_copies_stay(self):
        live = self.live()
        with live.trial():
            live.fail(1)
            other = live.copy()
        self.assertEqual((live.failed, other.failed), ((), (1,)))

    def test_tried(self):
        live = self.live()
        ahead = story(live)
        told = tried(live, lambda same: (same.fail(1), same.hopes(0), same is live))
        self.assertEqual(told, ((0,), (("home", 2),), True))
        self.assertEqual(tried(live, len), 1)
        self.assertIsNone(tried(live, lambda same: None))
        self.assertEqual(story(live), ahead)
        self.assertEqual(told_by(self, BadRoad, tried, live, lambda same: (same.step(0), same.fail(3))).value, 3)
        self.assertEqual(story(live), ahead)
        self.assertEqual(tried(live, lambda same: tried(same, lambda once: once.step(0))), ("on", (0, ("a",))))
        self.assertEqual(story(live), ahead)


class Equality(Case):
    def test_led_otherwise(self):
        one, other = Live(EXAMPLE), Live(EXAMPLE)
        self.assertIs(one == other, True)
        self.assertIs(one != other, False)
        one.send((0, ("a",)))
        one.send((1, ("b",)))
        one.step(0)
        one.fail(1)
        one.fail(0)
        one.put((2, "a"), "home")
        other.put((2, "a"), "home")
        other.fail(0)
        other.send((0, ("a",)))
        self.assertIs(one == other, False)
        other.mend(0)
        other.step(0)
        other.send((2, ()))
        other.undo()
        other.send((1, ("b",)))
        other.fail(1)
        other.fail(0)
        self.assertIs(one == other, True)
        self.assertIs(other == one, True)
        self.assertIs(one != other, False)

    def test_each_difference(self):
        for name, values in (
            ("send", ((0, ()),)), ("step", (0,)), ("step", (0, (2, ("b",)))), ("fail", (0,)), ("mend", (1,)),
            ("put", ((0, ""), "home")), ("drop", ((0, "a"),)),
        ):
            one = Live(EXAMPLE)
            one.send((0, ("b",)))
            one.fail(1) if name == "mend" else None
            other = one.copy()
            getattr(other, name)(*values)
            self.assertIs(one == other, False, name)
            self.assertIs(one != other, True, name)
            other.undo()
            self.assertIs(one == other, True)

    def test_other_ways(self):
        """The parcels are where the others are, but came there otherwise."""
        one, other = Live(EXAMPLE), Live(EXAMPLE)
        one.send((0, ("a",)))
        other.send((1, ("a",)))
        other.step(0)
        self.assertEqual(one[0], other[0])
        self.assertIs(one == other, False)
        one.step(0)
        one.step(0)
        other.step(0)
        other.step(0)
        self.assertIs(one == other, False)
        # Also when both have ended.
        one, other = Live(EXAMPLE), Live(EXAMPLE)
        one.send((2, ()))
        one.step(0)
        other.fail(1)
        other.send((0, ("a",)))
        other.step(0)
        other.step(0)
        other.mend(1)
        self.assertEqual((one[0], one.net, one.failed), (other[0], other.net, other.failed))
        self.assertIs(one == other, False)

    def test_a_step_that_leads_nowhere_else(self):
        """Only the way tells of it."""
        net = (((0, 0),), ("a",), (((0, ""), (((0, ()),),)),))
        one, other = Live(net), Live(net)
        one.send((0, ()))
        other.send((0, ()))
        one.step(0)
        self.assertIs(one == other, False)
        other.fail(0)
        other.mend(0)
        self.assertIs(one == other, False)
        other.step(0)
        self.assertIs(one == other, True)

    def test_other_numbers(self):
        one, other = Live(EXAMPLE), Live(EXAMPLE)
        for parcel in ((0, ()), (1, ())):
            one.send(parcel)
        for parcel in ((1, ()), (0, ())):
            other.send(parcel)
        self.assertIs(one == other, False)

    def test_other_nets(self):
        self.assertIs(Live(NET) == Live(EXAMPLE), False)
        self.assertIs(Live(SMALL) == Live((SMALL[0], ("b",), ())), False)
        self.assertIs(Live(SMALL) == Live(SMALL), True)

    def test_other_values(self):
        live = Live(NET)
        for value in (*WRONG, NET, 0, "", (), live.trial(), Desk("labels a\nroad 0 0"), Agreeing(), Breaking(), Live):
            self.assertIs(live == value, False)
            self.assertIs(live != value, True)

    def test_what_can_be_taken_back_makes_no_difference(self):
        one, other = Live(NET), Live(NET)
        one.fail(0)
        one.undo()
        self.assertIs(one == other, True)
        one.fail(0)
        one.mend(0)
        self.assertIs(one == other, True)


class Operators(unittest.TestCase):
    SIGNS = (
        operator.add, operator.sub, operator.mul, operator.floordiv, operator.mod, operator.pow, operator.and_,
        operator.or_, operator.xor, operator.lshift, operator.rshift, operator.lt, operator.le, operator.gt,
        operator.ge, operator.truediv, operator.matmul, divmod,
    )

    def test_signs_raise(self):
        for made in (Live(NET), Live(NET).trial(), Desk("labels a\nroad 0 0")):
            for sign in self.SIGNS:
                for other in (0, "a", b"a", None, (), [], {}, made, Live(SMALL)):
                    self.assertRaises(TypeError, sign, made, other)
                    if not (sign is operator.mod and isinstance(other, (str, bytes))):
                        self.assertRaises(TypeError, sign, other, made)
            for sign in (operator.neg, operator.pos, operator.invert, abs, int, operator.index):
                self.assertRaises(TypeError, sign, made)

    def test_live_nets_are_not_iterated_over(self):
        live = Live(NET)
        live.send((0, ()))
        for call in (iter, list, tuple, sorted, set, max, dict, lambda one: [*one], lambda one: 0 in one):
            self.assertRaises(TypeError, call, live)
        with self.assertRaises(TypeError):
            for one in live:
                self.fail()
        with self.assertRaises(TypeError):
            one, = live

    def test_nothing_is_assigned_to_them(self):
        live = Live(NET)
        live.send((0, ()))
        self.assertRaises(TypeError, operator.setitem, live, 0, ("on", (1, ())))
        self.assertRaises(TypeError, operator.delitem, live, 0)
        self.assertRaises(TypeError, live)
        self.assertEqual(live[0], ("on", (0, ())))

    def test_len(self):
        live = Live(NET)
        self.assertEqual(len(live), 0)
        live.send((0, ()))
        live.send((3, ()))
        live.step(1)
        self.assertEqual(len(live), 2)
        live.undo()
        live.undo()
        self.assertEqual(len(live), 1)


class Refusals(unittest.TestCase):
    def test_no_nets(self):
        for path in places(NET):
            for value in WRONG:
                told = told_by(self, BadNet, Live, put_at(NET, path, value))
                self.assertEqual(told.place, fault_place(path, value))

    def test_returned_values_cannot_be_changed(self):
        live = Live(NET)
        live.send((0, ("a",)))
        told = [live.net, live.failed, live[0], live.choices(0), live.hopes(0), live.way(0)]
        for value in (*told, live.fail(1), live.danger(1)):
            self.assertIsInstance(value, tuple)


if __name__ == "__main__":
    unittest.main()
