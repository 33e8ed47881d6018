"""Promises [65], [66] and the interface of labelroads.texts."""

import random
import re
import unittest

from labelroads.errors import BadLine, BadNet, BadParcel
from labelroads.nets import need_net
from labelroads.texts import net_text, parcel_text, read_net, read_parcel
from tests.samples import (
    NET, NO_PARCELS, SMALL, WRONG, clock_net, fault_place, little_net, places, put_at, some_net, some_word, told_by,
    twin_net, winding_net,
)

TEXT = """labels b a
road 0 1
road 1 1
road 1 0
road 1 2
row 0 - > 3 a b a , 1 / 2 b
row 0 a > 3 , 1 b , 1 a a / 2 / 2 a , 1
row 0 b home
row 1 a > 1
row 1 b > 3 b / 3
row 2 a > 0 b a
row 3 - home"""
SHORT = "labels a\nroad 0 0\nrow 0 - home\nrow 0 a > 0 a a / 0 , 0 a"

# The forms of lines once more, as patterns.
LABEL, DIGIT = "[a-z]{1,8}", "[0-9]"
CHOICE = f"{DIGIT}( {LABEL})*"
GROUP = f"{CHOICE}( , {CHOICE})*"
LABELS_LINE = f"labels( {LABEL})+"
ROAD_LINE = f"road {DIGIT} {DIGIT}"
ROW_LINE = f"row {DIGIT} (-|{LABEL}) (home|> {GROUP}( / {GROUP})*)"
# One of these makes a line of each beginning of a line.
ENDINGS = ("", " a", " 0", " 0 0", " home", " a home", " 0 a home")


def fault_of_line(line, patterns):
    """The number of the first word of a line that cannot stand there, or None if it is one."""
    words = line.split(" ")
    for many in range(1, len(words) + 1):
        start = " ".join(words[:many])
        if not any(re.fullmatch(pattern, start + ending) for pattern in patterns for ending in ENDINGS):
            return many - 1
    return None if any(re.fullmatch(pattern, line) for pattern in patterns) else len(words)


def fault_of_text(text):
    """The place that BadLine tells of a text of a net, or None if it is one by its form."""
    lines = text.split("\n")
    roads = rows = 0
    for number, line in enumerate(lines):
        if number == 0:
            patterns = [LABELS_LINE]
        elif rows:
            patterns = [ROW_LINE]
        else:
            patterns = [ROAD_LINE, ROW_LINE] if roads else [ROAD_LINE]
        fault = fault_of_line(line, patterns)
        if fault is not None:
            return number, fault
        roads += line.startswith("road")
        rows += line.startswith("row")
    return None if roads else (len(lines), 0)


def told_choice(text):
    out, *word = text.split()
    return int(out), tuple(word)


def told_by_text(text):
    """What a text tells that is one by its form."""
    roads, rows = [], []
    labels, *lines = text.split("\n")
    for line in lines:
        words = line.split()
        if words[0] == "road":
            roads.append((int(words[1]), int(words[2])))
            continue
        groups = "home"
        if words[3] == ">":
            groups = tuple(
                tuple(told_choice(choice) for choice in group.split(","))
                for group in line.split(">")[1].split("/")
            )
        rows.append(((int(words[1]), words[2].replace("-", "")), groups))
    return tuple(roads), tuple(labels.split()[1:]), tuple(rows)


class Writing(unittest.TestCase):
    def test_nets(self):
        self.assertEqual(net_text(NET), TEXT)
        self.assertEqual(net_text(SMALL), "labels a\nroad 0 0")
        net = (((0, 7), (7, 7)), ("home", "labels", "zzzzzzzz", "row"), (
            ((0, ""), "home"),
            ((1, "home"), "home"),
            ((1, "row"), (((1, ("home", "labels", "row")),),)),
        ))
        self.assertEqual(
            net_text(net),
            "labels home labels zzzzzzzz row\nroad 0 7\nroad 7 7\nrow 0 - home\nrow 1 home home\n"
            "row 1 row > 1 home labels row",
        )

    def test_parcels(self):
        self.assertEqual(parcel_text(NET, (0, ())), "0")
        self.assertEqual(parcel_text(NET, (3, ("a", "b", "b"))), "3 a b b")
        self.assertEqual(parcel_text(NET, (1, ("a",) * 3000)), "1" + " a" * 3000)

    def test_refusals(self):
        for path in places(NET):
            for value in WRONG:
                wrong = put_at(NET, path, value)
                for call, others in (
                    (net_text, ()), (parcel_text, ((0, ()),)), (parcel_text, (None,)), (read_parcel, ("0",)),
                    (read_parcel, (None,)),
                ):
                    self.assertEqual(told_by(self, BadNet, call, wrong, *others).place, fault_place(path, value))
        for value in NO_PARCELS:
            self.assertIs(told_by(self, BadParcel, parcel_text, NET, value).value, value)


class Reading(unittest.TestCase):
    def bad(self, text, line, word):
        told = told_by(self, BadLine, read_net, text)
        self.assertEqual((told.line, told.word), (line, word), text)
        self.assertEqual(fault_of_text(text), (line, word), text)

    def no_net(self, text, *place):
        self.assertEqual(told_by(self, BadNet, read_net, text).place, place)

    def test_nets(self):
        self.assertEqual(read_net(TEXT), NET)
        self.assertEqual(read_net("labels a\nroad 0 0"), SMALL)
        wanted = (((0, ""), "home"), ((0, "a"), (((0, ("a", "a")),), ((0, ()), (0, ("a",))))))
        self.assertEqual(read_net(SHORT), (((0, 0),), ("a",), wanted))
        self.assertEqual(read_net(text=TEXT), NET)

    def test_labels_that_are_words_of_lines(self):
        text = "labels row home road labels\nroad 0 0\nrow 0 home home\nrow 0 road > 0 home road row\nrow 0 row > 0"
        told = read_net(text)
        self.assertEqual(net_text(told), text)
        self.assertEqual(told[2][0], ((0, "home"), "home"))

    def test_there_and_back(self):
        nets = [NET, SMALL, clock_net(()), *[some_net(seed) for seed in range(150)]]
        nets += [make(seed) for make in (little_net, winding_net, twin_net) for seed in range(50)]
        for net in nets:
            text = net_text(net)
            self.assertEqual(read_net(text), net)
            self.assertEqual(told_by_text(text), net)
            self.assertIsNone(fault_of_text(text))
            chance = random.Random(len(text))
            parcel = (chance.randrange(len(net[0])), some_word(chance, net[1], 6))
            self.assertEqual(read_parcel(net, parcel_text(net, parcel)), parcel)

    def test_no_strings(self):
        for value in (*WRONG, 0, (), ("labels a",), ["labels a", "road 0 0"], b"labels a\nroad 0 0", {"labels a": 0}):
            if not isinstance(value, str):
                for call, before in ((read_net, ()), (read_parcel, (NET,))):
                    told = told_by(self, BadLine, call, *before, value)
                    self.assertEqual((told.line, told.word), (None, None))

    def test_lines_that_are_missing(self):
        self.bad("", 0, 0)
        self.bad("labels a", 1, 0)
        self.bad("labels a\n", 1, 0)
        self.bad("\n", 0, 0)
        self.bad("\nlabels a\nroad 0 0", 0, 0)
        self.bad("labels a\n\nroad 0 0", 1, 0)
        self.bad(SHORT + "\n", 4, 0)
        self.bad(SHORT + "\n\n", 4, 0)
        self.bad("labels a\nroad 0 0\n", 2, 0)
        self.bad("labels a\nrow 0 - home", 1, 0)

    def test_lines_in_another_order(self):
        lines = SHORT.split("\n")
        self.bad("\n".join(lines[1:]), 0, 0)
        self.bad("\n".join(lines[:1] + lines[2:]), 1, 0)
        self.bad("\n".join([lines[1], lines[0], *lines[2:]]), 0, 0)
        self.bad("\n".join([lines[0], lines[2], lines[1]]), 1, 0)
        self.bad("\n".join([*lines, lines[1]]), 4, 0)
        self.bad("\n".join([*lines, lines[0]]), 4, 0)
        self.bad("\n".join([lines[0], lines[0], *lines[1:]]), 1, 0)
        self.bad("\n".join([*lines[:2], lines[0]]), 2, 0)
        # Rows in another order, or twice, have the form of a text; they tell no net.
        self.no_net("\n".join([*lines[:2], lines[3], lines[2]]), "rows", 1)
        self.no_net("\n".join([*lines, lines[3]]), "rows")
        self.no_net("\n".join([*lines[:3], lines[2]]), "rows", 1)
        self.assertEqual(len(read_net("\n".join([*lines[:2], lines[1], *lines[2:]]))[0]), 2)

    def test_labels(self):
        rest = "\nroad 0 0"
        self.bad("labels" + rest, 0, 1)
        self.bad("label a" + rest, 0, 0)
        self.bad("Labels a" + rest, 0, 0)
        self.bad("labels " + rest, 0, 1)
        self.bad("labels  a" + rest, 0, 1)
        self.bad("labels a " + rest, 0, 2)
        self.bad(" labels a" + rest, 0, 0)
        for word in ("A", "a1", "1", "-", ">", ",", "abcdefghi", "a_", "a-b", "~", "\t"):
            self.bad(f"labels a b {word} c" + rest, 0, 3)
        self.assertEqual(read_net("labels zzzzzzzz b" + rest)[1], ("zzzzzzzz", "b"))

    def test_roads(self):
        for line, word in (
            ("road", 1), ("road 0", 2), ("road 0 0 0", 3), ("road 0 0 ", 3), ("road  0 0", 1), ("road 0  0", 2),
            ("road 10 0", 1), ("road 0 10", 2), ("road 00 0", 1), ("road a 0", 1), ("road 0 a", 2), ("road -1 0", 1),
            ("road 0 -", 2), ("Road 0 0", 0), ("", 0), (" ", 0), ("roads 0 0", 0), ("road 0 +1", 2), ("road 0 0 a", 3),
        ):
            self.bad(f"labels a\n{line}", 1, word)
            self.bad(f"labels a\nroad 0 0\n{line}\nrow 0 a home", 2, word)

    def test_rows(self):
        for line, word in (
            ("row", 1), ("row 0", 2), ("row 0 a", 3), ("row 0 a >", 4), ("row 0 a > 1 ,", 6), ("row 0 a > 1 /", 6),
            ("row 0 a > 1 b ,", 7), ("row a a home", 1), ("row 0 0 home", 2), ("row 0 > home", 2), ("row 0 a Home", 3),
            ("row 0 a 1", 3), ("row 0 a > b", 4), ("row 0 a > , 1", 4), ("row 0 a > / 1", 4), ("row 0 a > 1 1", 5),
            ("row 0 a > 1 , / 1", 6), ("row 0 a > 1 / , 1", 6), ("row 0 a > 1 b 1", 6), ("row 0 a > home", 4),
            ("row 0 a home home", 4), ("row 0 a home > 1", 4), ("row 0 a home ", 4), ("row 00 a home", 1),
            ("row 10 a home", 1), ("row 0 -- home", 2), ("row 0  home", 2), ("row 0 a > 1, 1", 4), ("row 0 a > 12", 4),
            ("row 0 a > 1 b  b", 6), ("row 0 a > 1 > 1", 5), ("row 0 a > 1 - , 1", 5), ("row 0 a >  1", 4),
            ("row 0 a > 1 b / 1 c / 1 d / x", 13), ("row 0 a > 1 abcdefghi", 5), ("row 0 - > 1 ", 5),
            ("rows 0 a home", 0), ("row 0 a / 1", 3), ("row - a home", 1), ("row 0 A home", 2),
        ):
            self.bad(f"labels a b\nroad 0 0\n{line}", 2, word)
            self.bad(f"labels a b\nroad 0 0\nroad 0 1\nrow 0 - > 0 a\n{line}\nrow 0", 4, word)

    def test_the_first_line_and_the_first_word_are_told(self):
        self.bad("labels a 1 2\nroad\n", 0, 2)
        self.bad("labels a\nroad x x\nrow", 1, 1)
        self.bad("labels a\nroad 9 9\nrow 0 x y", 2, 3)
        # The form is looked at ahead of what is told.
        self.bad("labels any any\nroad 9 9\nrow 7 x > 1 a a a a\nrow 0", 3, 2)

    def test_no_nets_by_their_form(self):
        self.no_net("labels a b c d e\nroad 0 0", "labels")
        self.no_net("labels a any\nroad 0 0", "labels", 1)
        self.no_net("labels all\nroad 0 0", "labels", 0)
        self.no_net("labels a b a\nroad 0 0", "labels", 2)
        self.no_net("labels a" + "\nroad 0 0" * 11, "roads")
        self.assertEqual(len(read_net("labels a" + "\nroad 0 0" * 10)[0]), 10)
        self.no_net("labels a\nroad 0 8", "roads", 0)
        self.no_net("labels a\nroad 0 7\nroad 9 0", "roads", 1)
        start = "labels a b\nroad 0 0\nroad 0 1\n"
        for line in (
            "row 2 a home", "row 0 c home", "row 0 any home", "row 0 home home", "row 0 a > 2", "row 0 a > 1 c",
            "row 0 a > 1 a a a a", "row 1 a > 1", "row 0 a > 1 , 1", "row 0 a > 0 , 1 , 0 a , 1 a",
            "row 0 a > 0 / 0 / 0 / 0", "row 0 a > 1 all", "row 0 a > 1 a b , 0 , 1 a b",
        ):
            self.no_net(start + line, "rows", 0)
            self.no_net(start + "row 0 - home\n" + line, "rows", 1)
        self.no_net(start + "row 0 a home\nrow 0 - home", "rows", 1)
        self.no_net(start + "row 0 - home\nrow 0 a home\nrow 0 a > 1", "rows", 2)
        self.no_net(start + "\n".join(f"row 0 {'abcdefg'[place]} home" for place in range(7)), "rows")
        # The roads are looked at ahead of the labels.
        self.no_net("labels any\nroad 8 0\nrow 9 x home", "roads", 0)
        self.no_net("labels any\nroad 0 0\nrow 9 x home", "labels", 0)

    def test_a_word_changed_anywhere(self):
        words = "labels road row home > / , - 0 1 a b 10 A abcdefghi any".split() + [""]
        told = {"bad": 0, "no net": 0, "net": 0}
        for text in (TEXT, SHORT):
            lines = [line.split(" ") for line in text.split("\n")]
            for number, line in enumerate(lines):
                for place in range(len(line) + 1):
                    changes = [[*line[:place], word, *line[place:]] for word in words]
                    changes += [[*line[:place], word, *line[place + 1 :]] for word in words]
                    changes += [line[:place] + line[place + 1 :], line[: place + 1] + line[place:], line[:place]]
                    for changed in changes:
                        other = [*lines[:number], changed, *lines[number + 1 :]]
                        told[self.reads_as_told("\n".join(" ".join(one) for one in other))] += 1
        self.assertGreater(min(told.values()), 50, told)

    def test_lines_changed_anywhere(self):
        chance = random.Random(5)
        told = {"bad": 0, "no net": 0, "net": 0}
        for turn in range(1500):
            lines = net_text(little_net(turn)).split("\n")
            for change in range(chance.randint(1, 3)):
                place = chance.randrange(len(lines) + 1)
                other = chance.choice([*lines, "", "road 0 0", "row 0 - home", "labels a"])
                lines = chance.choice((
                    [*lines[:place], other, *lines[place:]], lines[:place] + lines[place + 1 :], lines[:place],
                    lines[:place] + lines[place:][::-1],
                ))
            told[self.reads_as_told("\n".join(lines))] += 1
        self.assertGreater(min(told.values()), 50, told)

    def reads_as_told(self, text):
        """The text is read as the patterns tell; returns how."""
        fault = fault_of_text(text)
        if fault is not None:
            self.bad(text, *fault)
            return "bad"
        try:
            wanted = need_net(told_by_text(text))
        except BadNet as error:
            self.no_net(text, *error.place)
            return "no net"
        self.assertEqual(read_net(text), wanted)
        return "net"


class ReadingParcels(unittest.TestCase):
    def test_parcels(self):
        self.assertEqual(read_parcel(NET, "0"), (0, ()))
        self.assertEqual(read_parcel(NET, "3 a b b"), (3, ("a", "b", "b")))
        self.assertEqual(read_parcel(text="1 a", net=NET), (1, ("a",)))
        self.assertEqual(read_parcel(NET, "2" + " b" * 3000), (2, ("b",) * 3000))

    def test_lines(self):
        for text, word in (
            ("", 0), (" ", 0), (" 0", 0), ("0 ", 1), ("0  a", 1), ("0 a ", 2), ("a", 0), ("a 0", 0), ("00", 0),
            ("10", 0), ("0 1", 1), ("0 a 1", 2), ("0 A", 1), ("0 a -", 2), ("0 -", 1), ("-", 0), ("0,a", 0),
            ("0 abcdefghi", 1), ("0 a , 1", 2), ("0 a b c d 0", 5), ("-1", 0), ("+1", 0), ("0 a\n", 1), ("0\n", 0),
            ("\n0", 0), ("0 a\nb", 1), ("0\n1", 0), ("0 a b\n0 a", 2), ("0 \n a", 1),
        ):
            told = told_by(self, BadLine, read_parcel, NET, text)
            self.assertEqual((told.line, told.word), (0, word), text)
            self.assertEqual(fault_of_line(text, [CHOICE]), word)

    def test_no_parcels_by_their_form(self):
        for text, value in (
            ("4", (4, ())), ("9 a", (9, ("a",))), ("0 c", (0, ("c",))), ("0 a any", (0, ("a", "any"))),
            ("3" + " a" * 3001, (3, ("a",) * 3001)), ("1 a b all a", (1, ("a", "b", "all", "a"))),
        ):
            self.assertEqual(told_by(self, BadParcel, read_parcel, NET, text).value, value)

    def test_the_net_is_looked_at_first(self):
        for value in (None, "x", "0", ""):
            self.assertEqual(told_by(self, BadNet, read_parcel, (1, 2, 3), value).place, ("roads",))


if __name__ == "__main__":
    unittest.main()
