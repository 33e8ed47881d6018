"""The interface of labelroads.desk, with promise [65] for what it says."""

import inspect
import random
import unittest

from labelroads.desk import Desk
from labelroads.errors import BadLine, BadNet
from labelroads.live import Live
from labelroads.texts import net_text, parcel_text
from tests.leading import EXAMPLE, some_deed, story, told_of
from tests.samples import NET, WRONG, flat_net, little_net, some_net, told_by

BAD = "bad line"
TEXT = net_text(EXAMPLE)
# Of each kind of line: one that is answered, if it is said to the desk of the tests.
GOOD = {
    "send 0 a b": "3", "send 2": "3", "step 0": "on 1 a", "step 1 1": "on 1", "step 1 2 b": "on 2 b",
    "step 2": "home 2", "where 0": "on 0 a", "choices 0": "1 a", "choices 1": "1 , 2 b", "choices 2": "none",
    "hopes 0": "ever", "hopes 1": "lost", "hopes 2": "home 2", "way 0": "0 a", "way 1": "0 b", "fail 1": "0",
    "fail 0": "0", "mend 2": "none", "row 0 a home": "0", "row 1 - > 0 , 0 a / 0 b b": "1", "row 2 b home": "1",
    "row 2 a > 2": BAD, "drop 0 a": "0", "drop 2 -": "2", "danger 0": "1", "danger 1": "0 1", "failed": "2",
    "net": TEXT, "undo": "done", "redo": "nothing",
}


def outcome_text(outcome):
    return outcome[0] if len(outcome) == 1 else f"home {outcome[1]}"


def place_text(net, place):
    return f"home {place[1]}" if place[0] == "home" else f"{place[0]} {parcel_text(net, place[1])}"


def line_of(name, values):
    """The line by which a desk does what a method does with some values."""
    if name == "send":
        road, stack = values[0]
        return " ".join(["send", str(road), *stack])
    if name == "step":
        words = [f"step {values[0]}"]
        words += [" ".join([str(out), *word]) for out, word in values[1:]]
        return " ".join(words)
    if name in ("put", "drop"):
        (road, top), *groups = values
        words = [{"put": "row", "drop": "drop"}[name], str(road), top or "-"]
        if groups and groups[0] == "home":
            words.append("home")
        elif groups:
            told = [" , ".join(" ".join([str(out), *word]) for out, word in group) for group in groups[0]]
            words += [">", " / ".join(told)]
        return " ".join(words)
    return " ".join([name, *map(str, values)])


def answer_of(net, told):
    """The answer to a line that a desk gives, by what the method returns."""
    if isinstance(told, bool):
        return "done" if told else "nothing"
    if isinstance(told, int):
        return str(told)
    if told and isinstance(told[0], type):
        return BAD
    if told and isinstance(told[0], str):
        return place_text(net, told)
    return " ".join(map(str, told)) or "none"


class Saying(unittest.TestCase):
    def desk(self):
        """A desk with three parcels and a failed road, of which nothing can be done again."""
        desk = Desk(TEXT)
        for line, answer in (("send 0 a", "0"), ("send 0 b", "1"), ("send 2", "2")):
            self.assertEqual(desk.say(line), answer)
        return desk

    def bad(self, desk, line):
        ahead = story(desk.live)
        self.assertEqual(desk.say(line), BAD, line)
        self.assertEqual(story(desk.live), ahead)

    def test_example(self):
        desk = Desk("labels a b\nroad 0 1\nroad 1 1\nroad 1 2\nrow 0 a > 1 b / 2\nrow 1 b > 2 a , 1 b b\nrow 2 - home")
        lines = ("send 0 a", "hopes 0", "fail 1", "hopes 0", "danger 1", "undo", "step 0", "choices 0")
        told = ["0", "ever , lost", "0", "home 2", "0", "done", "on 1 b", "1 b b , 2 a"]
        self.assertEqual([desk.say(line) for line in lines], told)
        self.assertEqual([Desk(text=desk.say(line="net")).say(line="net")], [desk.say("net")])

    def test_each_line(self):
        for line, answer in GOOD.items():
            desk = self.desk()
            if line in ("mend 2", "failed"):
                desk.say("fail 2")
            if line.startswith("row 1 -"):
                desk.live.put((0, "b"), (((1, ()),),))
            if answer == BAD:
                self.bad(desk, line)
            else:
                self.assertEqual(desk.say(line), answer, line)

    def test_a_word_more_and_a_word_less(self):
        """Such a line is none, unless it is another one that can be answered."""
        others = 0
        for line in GOOD:
            words = line.split(" ")
            changed = [[*words[:place], word, *words[place:]] for place in range(len(words) + 1)
                       for word in ("", "0", "1", "a", "-", ">", ",", "/", "home", "undo", "x")]
            changed += [words[:place] + words[place + 1 :] for place in range(len(words))]
            for other in changed:
                desk = self.desk()
                if self.can_be_said(other):
                    others += 1
                    desk.say(" ".join(other))
                else:
                    self.bad(desk, " ".join(other))
        self.assertGreater(others, 30)

    def can_be_said(self, words):
        """Whether words have the form of a line; numbers here have one digit."""
        def is_pair(some):
            return some[:1] in (["0"], ["1"], ["2"]) and all(word.isalpha() for word in some[1:])

        def is_head(some):
            return len(some) == 2 and is_pair([some[0]]) and (some[1].isalpha() or some[1] == "-")

        first, rest = (words or [""])[0], words[1:]
        if first == "send":
            return is_pair(rest)
        if first == "step":
            return is_pair(rest[:1]) and len(rest[:1]) == 1 and (len(rest) == 1 or is_pair(rest[1:]))
        if first in ("where", "choices", "hopes", "way", "fail", "mend", "danger"):
            return len(rest) == 1 and is_pair(rest)
        if first == "row":
            groups = [choice for group in " ".join(rest[3:]).split(" / ") for choice in group.split(" , ")]
            told = rest[2:] == ["home"] or rest[2:3] == [">"] and all(is_pair(choice.split(" ")) for choice in groups)
            return is_head(rest[:2]) and told
        if first == "drop":
            return is_head(rest)
        return first in ("failed", "net", "undo", "redo") and not rest

    def test_no_lines(self):
        desk = self.desk()
        for line in (
            "", " ", "say", "Send 0 a", "sends 0", "hope 0", "copy", "trial", "len", "put 0 a home", "undo\n", "\nundo",
            "net\nnet", "send 0 a\nb", "send 0\n", "row 0 a home\nrow 0 b home", " undo", "undo ", "undo  ", "bad line",
            "step", "step a", "step 0 a", "step -1", "step +1", "step 0 ", "step 0 1 a ", "step 0 1  a", "where",
            "way -",
            "fail", "fail a", "fail 3", "fail 9", "mend 0", "danger 3", "danger -1", "danger", "row", "drop", "drop 0",
            "drop 0 a home", "drop 2 a", "drop - a", "row 0 a", "row 0 a >", "row 0 a > 0", "row 3 a home",
            "row 0 d home",
            "send", "send 3", "send 0 d", "send 0 any", "send a", "failed 0", "net 0", "redo redo", "hopes 3", "way 4",
        ):
            self.bad(desk, line)

    def test_values_that_are_no_strings(self):
        desk = self.desk()
        for value in (*WRONG, 0, (), ("undo",), ["undo"], b"undo", {"undo": 0}, len, desk):
            if not isinstance(value, str):
                self.bad(desk, value)
        for value in WRONG:
            if isinstance(value, str):
                self.bad(desk, value)

    def test_numbers_of_two_digits(self):
        desk = Desk(TEXT)
        for number in range(20):
            self.assertEqual(desk.say(f"send {number % 3}"), str(number))
        self.bad(desk, "send 0")
        for number in (9, 10, 19):
            self.assertEqual(desk.say(f"where {number}"), f"on {number % 3}")
            self.assertEqual(desk.say(f"hopes {number}"), "home 2" if number % 3 == 2 else "lost")
            self.assertEqual(desk.say(f"way {number}"), f"{number % 3}")
            self.assertEqual(desk.say(f"choices {number}"), "none")
        self.assertEqual(desk.say("step 19"), "lost 1")
        self.assertEqual(desk.say("step 11"), "home 2")
        self.assertEqual(desk.say("where 11"), "home 2")
        for first in ("step", "where", "choices", "hopes", "way"):
            for number in "00 01 010 011 019 20 99 100 1a a1 -1 +1 1. 0x1 1_0 1,".split() + ["1 0", " 1", "1 "]:
                self.bad(desk, f"{first} {number}")
        for line in ("fail 00", "fail 01", "fail 10", "danger 00", "danger 01", "danger 10", "send 00", "send 01 a",
                     "row 00 a home", "row 10 a home", "row 0 a > 01", "row 0 a > 10", "drop 00 a", "step 12 01"):
            self.bad(desk, line)

    def test_numbers_that_a_deed_tells(self):
        desk = Desk(TEXT)
        for number in range(12):
            desk.say("send 0 a")
        self.assertEqual(desk.say("fail 1"), "0 1 2 3 4 5 6 7 8 9 10 11")
        self.assertEqual(desk.say("failed"), "1")
        self.assertEqual(desk.say("danger 1"), "0 1 2 3 4 5 6 7 8 9 10 11")
        self.assertEqual(desk.say("danger 0"), "none")
        self.assertEqual(desk.say("fail 0"), "none")
        self.assertEqual(desk.say("failed"), "0 1")
        self.assertEqual(desk.say("mend 0"), "none")
        self.assertEqual([desk.say("mend 1"), desk.say("failed")], ["0 1 2 3 4 5 6 7 8 9 10 11", "none"])

    def test_ways_and_hopes(self):
        desk = Desk(TEXT)
        desk.say("row 1 c > 0 c c c , 0 / 0 a")
        desk.say("send 0 c b")
        desk.say("row 2 b home")
        self.assertEqual(desk.say("hopes 0"), "ever")
        self.assertEqual([desk.say("step 0"), desk.say("choices 0")], ["on 1 c c b", "0 , 0 c c c"])
        self.assertEqual([desk.say("step 0 0 c c c"), desk.say("step 0")], ["on 0 c c c c b", "on 1 c c c c c b"])
        self.assertEqual(desk.say("way 0"), "0 c b , 1 c c b , 0 c c c c b , 1 c c c c c b")
        self.assertEqual(desk.say("send 0 b"), "1")
        self.assertEqual(desk.say("hopes 1"), "home 2 , lost")
        self.assertEqual([desk.say("step 1 2 b"), desk.say("step 1")], ["on 2 b", "home 2"])
        self.assertEqual([desk.say("way 1"), desk.say("hopes 1")], ["0 b , 2 b", "home 2"])
        self.assertEqual(desk.say("choices 1"), "none")

    def test_undo_and_redo(self):
        desk = Desk(TEXT)
        self.assertEqual([desk.say("undo"), desk.say("redo")], ["nothing", "nothing"])
        desk.say("fail 2")
        desk.say("drop 0 a")
        self.assertEqual([desk.say("undo"), desk.say("undo"), desk.say("undo")], ["done", "done", "nothing"])
        self.assertEqual((desk.say("failed"), desk.say("net")), ("none", TEXT))
        self.assertEqual([desk.say("redo"), desk.say("failed")], ["done", "2"])
        self.assertEqual([desk.say("redo"), desk.say("redo")], ["done", "nothing"])
        self.assertEqual(desk.say("net"), TEXT.replace("row 0 a > 1 a / 2\n", ""))
        desk.say("undo")
        self.bad(desk, "fail 2")
        self.bad(desk, "redo 1")
        self.assertEqual(desk.say("redo"), "done")

    def test_rows(self):
        desk = Desk("labels a\nroad 0 0")
        self.assertEqual(desk.say("row 0 - > 0 a , 0 / 0 a a a"), "none")
        self.assertEqual(desk.say("net"), "labels a\nroad 0 0\nrow 0 - > 0 a , 0 / 0 a a a")
        self.assertEqual(desk.say("row 0 a home"), "none")
        self.assertEqual(desk.say("net").split("\n")[-1], "row 0 a home")
        for line in ("row 0 - > 0 , 0", "row 0 - > 0 a a a a", "row 0 - > 0 / 0 / 0 / 0", "row 0 - > 1", "row 0 b > 0"):
            self.bad(desk, line)
        self.assertEqual([desk.say("drop 0 -"), desk.say("drop 0 a")], ["none", "none"])
        self.bad(desk, "drop 0 a")
        self.assertEqual(desk.live.net, (((0, 0),), ("a",), ()))

    def test_too_great(self):
        desk = Desk("labels a\nroad 0 0\nrow 0 a > 0 a a")
        self.assertEqual(desk.say("send 0" + " a" * 3000), "0")
        self.bad(desk, "step 0")
        self.bad(desk, "step 0 0 a a")
        self.bad(desk, "send 0" + " a" * 3001)

    def test_a_desk_and_a_live_net_that_is_led_by_the_same_deeds(self):
        names = {}
        for seed in range(120):
            chance = random.Random(seed)
            net = (some_net, little_net, flat_net)[seed % 3](seed)
            desk, live = Desk(net_text(net)), Live(net)
            for turn in range(30):
                name, values = some_deed(chance, live)
                told = answer_of(net, told_of(live, name, values))
                self.assertEqual(desk.say(line_of(name, values)), told, (name, values))
                self.assertIs(desk.live == live, True)
                names[name] = names.get(name, 0) + (told != BAD)
            self.answers(desk, live)
        self.assertGreater(min(names.values()), 30, names)

    def answers(self, desk, live):
        """What a desk says of a live net that is as its own."""
        net = live.net
        self.assertEqual(desk.say("net"), net_text(net))
        self.assertEqual(desk.say("failed"), " ".join(map(str, live.failed)) or "none")
        for number in range(len(live)):
            wanted = {
                "where": place_text(net, live[number]),
                "choices": " , ".join(parcel_text(net, choice) for choice in live.choices(number)) or "none",
                "hopes": " , ".join(outcome_text(outcome) for outcome in live.hopes(number)),
                "way": " , ".join(parcel_text(net, parcel) for parcel in live.way(number)),
            }
            self.assertEqual({first: desk.say(f"{first} {number}") for first in wanted}, wanted)
        self.bad(desk, f"where {len(live)}")


class Making(unittest.TestCase):
    def test_names(self):
        self.assertEqual(list(inspect.signature(Desk).parameters), ["text"])
        self.assertEqual(list(inspect.signature(Desk.say).parameters), ["self", "line"])
        self.assertTrue({"__init__", "live", "say"} <= set(vars(Desk)))
        self.assertEqual(Desk.__module__, "labelroads.desk")
        self.assertIsInstance(vars(Desk)["live"], property)

    def test_the_live_net_itself(self):
        desk = Desk(net_text(NET))
        self.assertIsInstance(desk.live, Live)
        self.assertIs(desk.live, desk.live)
        self.assertIs(desk.live == Live(NET), True)
        self.assertRaises(AttributeError, setattr, desk, "live", Live(NET))
        # It can be led beside the desk.
        self.assertEqual(desk.live.send((0, ("a",))), 0)
        self.assertEqual(desk.say("where 0"), "on 0 a")
        with desk.live.trial():
            desk.say("fail 1")
            self.assertEqual(desk.live.failed, (1,))
        self.assertEqual(desk.say("failed"), "none")

    def test_refusals(self):
        for value in (*WRONG, 0, (), NET):
            if not isinstance(value, str):
                told = told_by(self, BadLine, Desk, value)
                self.assertEqual((told.line, told.word), (None, None))
        for text, place in (("", (0, 0)), ("labels a", (1, 0)), ("labels a\nroad 0 0\nrow 0 a", (2, 3))):
            told = told_by(self, BadLine, Desk, text)
            self.assertEqual((told.line, told.word), place)
        self.assertEqual(told_by(self, BadNet, Desk, "labels a\nroad 0 8").place, ("roads", 0))

    def test_equality(self):
        desk = Desk(TEXT)
        for value in (Desk(TEXT), desk.live, TEXT, None, 0, ()):
            self.assertIs(desk == value, False)
            self.assertIs(desk != value, True)
        self.assertIs(desk == desk, True)


if __name__ == "__main__":
    unittest.main()
