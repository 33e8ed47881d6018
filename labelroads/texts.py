"""The texts of nets and parcels, and how they are read.

By its form a line is a row of words that lead from place to place. PLACES tells, for each place, which words can stand
there, and to which place each leads; the name of a kind of line is the place at which such a line begins. DIGIT stands
for each number of one digit, LABEL for each word in the sense of the document, 1 to 8 letters from a to z.
"""

from labelroads.errors import BadLine
from labelroads.forms import is_word
from labelroads.nets import need_net
from labelroads.parcels import need_parcel

PLACES = {
    "labels": (("labels", "first label"),),
    "first label": (("LABEL", "more labels"),),
    "more labels": (("LABEL", "more labels"),),
    "road": (("road", "from"),),
    "from": (("DIGIT", "to"),),
    "to": (("DIGIT", "end"),),
    "row": (("row", "road of row"),),
    "road of row": (("DIGIT", "top of row"),),
    "top of row": (("LABEL", "groups"), ("-", "groups")),
    "groups": (("home", "end"), (">", "out")),
    "out": (("DIGIT", "word"),),
    "word": (("LABEL", "word"), (",", "out"), ("/", "out")),
    "pair": (("DIGIT", "more labels"),),
    "head": (("DIGIT", "top"),),
    "top": (("LABEL", "end"), ("-", "end")),
    "end": (),
}
ENDS = ("more labels", "word", "end")
# Of each kind of line in the text of a net, of which kinds the next line can be.
NEXT_LINES = {"labels": ("road",), "road": ("road", "row"), "row": ("row",)}


def is_digit(word):
    return len(word) == 1 and "0" <= word <= "9"


def stands_for(sign, word):
    """Whether what PLACES tells stands for a word."""
    if sign == "DIGIT":
        return is_digit(word)
    if sign == "LABEL":
        return is_word(word)
    return sign == word


def place_behind(place, word):
    """The place to which a word leads, or None if it cannot stand at this one."""
    for sign, behind in PLACES[place]:
        if stands_for(sign, word):
            return behind
    return None


def need_line(words, line, kind):
    """BadLine if these words, of the line with this number, are by their form no line of this kind."""
    place = kind
    for number, word in enumerate(words):
        place = place_behind(place, word)
        if place is None:
            raise BadLine(line, number)
    if place not in ENDS:
        raise BadLine(line, len(words))


def pair_text(number, labels):
    """The text of a parcel, or of a choice."""
    return " ".join([str(number), *labels])


def pairs_text(pairs):
    """The texts of parcels, or of choices, with commas between."""
    return " , ".join([pair_text(number, labels) for number, labels in pairs])


def row_text(head, groups):
    """The line of a row."""
    road, top = head
    words = ["row", str(road), top if top else "-"]
    if groups == "home":
        return " ".join([*words, groups])
    return " ".join([*words, ">", " / ".join([pairs_text(group) for group in groups])])


def net_text(net):
    """The text of a net."""
    need_net(net)
    roads, labels, rows = net
    lines = [" ".join(["labels", *labels])]
    lines.extend([f"road {start} {end}" for start, end in roads])
    lines.extend([row_text(head, groups) for head, groups in rows])
    return "\n".join(lines)


def parcel_text(net, parcel):
    """The text of a parcel."""
    need_net(net)
    need_parcel(net, parcel)
    return pair_text(parcel[0], parcel[1])


def need_text(text):
    """BadLine if this is no string."""
    if not isinstance(text, str):
        raise BadLine(None, None)


def read_net(text):
    """The net that a text tells."""
    need_text(text)
    lines = [line.split(" ") for line in text.split("\n")]
    need_lines(lines)
    labels = tuple(lines[0][1:])
    roads = tuple([(int(words[1]), int(words[2])) for words in lines if words[0] == "road"])
    rows = tuple([read_row(words) for words in lines if words[0] == "row"])
    return need_net((roads, labels, rows))


def need_lines(lines):
    """BadLine if these lines, told by their words, are by their form no text of a net."""
    need_line(lines[0], 0, "labels")
    kind = "labels"
    for line, words in enumerate(lines[1:], start=1):
        if words[0] not in NEXT_LINES[kind]:
            raise BadLine(line, 0)
        kind = words[0]
        need_line(words, line, kind)
    if kind == "labels":
        raise BadLine(len(lines), 0)


def read_row(words):
    """The row that the words of a line tell, which are one by their form."""
    head = read_head(words[1:3])
    if words[3] == "home":
        return (head, "home")
    groups = " ".join(words[4:]).split(" / ")
    return (head, tuple([read_group(group) for group in groups]))


def read_head(words):
    """The head that two words tell."""
    return (int(words[0]), "" if words[1] == "-" else words[1])


def read_group(text):
    """The group that a text tells."""
    return tuple([read_pair(choice.split(" ")) for choice in text.split(" , ")])


def read_pair(words):
    """The parcel, or the choice, that words tell."""
    return (int(words[0]), tuple(words[1:]))


def read_parcel(net, text):
    """The parcel of a net that a text tells."""
    need_net(net)
    need_text(text)
    words = text.split(" ")
    need_line(words, 0, "pair")
    parcel = read_pair(words)
    need_parcel(net, parcel)
    return parcel
