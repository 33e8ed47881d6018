"""A desk: a live net that is led by lines.

For each first word of a line there is a function that answers the line, told by its words, and leads the live net. A
word that cannot stand where it stands raises BadLine, with its number.
"""

from labelroads.errors import BadLine, NetError, TooGreat
from labelroads.live import Live
from labelroads.texts import (
    is_digit, need_line, net_text, pair_text, pairs_text, read_head, read_net, read_pair, read_parcel, read_row,
)

BAD_LINE = "bad line"


def need_end(words, many):
    """BadLine if there are other than so many words."""
    if len(words) != many:
        raise BadLine(0, min(len(words), many))


def read_number(words, place):
    """The number of one or two digits, without a needless 0 in front, that stands at a place."""
    if len(words) <= place:
        raise BadLine(0, place)
    word = words[place]
    if not is_digit(word) and not (len(word) == 2 and word[0] != "0" and is_digit(word[0]) and is_digit(word[1])):
        raise BadLine(0, place)
    return int(word)


def read_only_number(words):
    """The number of a line with one word more than it."""
    number = read_number(words, 1)
    need_end(words, 2)
    return number


def place_text(place):
    """The text of where a parcel is."""
    word, what = place
    return f"home {what}" if word == "home" else f"{word} {pair_text(what[0], what[1])}"


def numbers_text(numbers):
    return " ".join([str(number) for number in numbers]) if numbers else "none"


def outcome_text(outcome):
    return " ".join([str(part) for part in outcome])


def answer_send(live, words):
    return str(live.send(read_parcel(live.net, " ".join(words[1:]))))


def answer_step(live, words):
    number = read_number(words, 1)
    if len(words) == 2:
        return place_text(live.step(number))
    need_line(words[2:], 0, "pair")
    return place_text(live.step(number, read_pair(words[2:])))


def answer_where(live, words):
    return place_text(live[read_only_number(words)])


def answer_choices(live, words):
    found = live.choices(read_only_number(words))
    return pairs_text(found) if found else "none"


def answer_hopes(live, words):
    return " , ".join([outcome_text(outcome) for outcome in live.hopes(read_only_number(words))])


def answer_way(live, words):
    return pairs_text(live.way(read_only_number(words)))


def answer_fail(live, words):
    return numbers_text(live.fail(read_only_number(words)))


def answer_mend(live, words):
    return numbers_text(live.mend(read_only_number(words)))


def answer_row(live, words):
    need_line(words, 0, "row")
    head, groups = read_row(words)
    return numbers_text(live.put(head, groups))


def answer_drop(live, words):
    need_line(words[1:], 0, "head")
    return numbers_text(live.drop(read_head(words[1:])))


def answer_danger(live, words):
    return numbers_text(live.danger(read_only_number(words)))


def answer_failed(live, words):
    need_end(words, 1)
    return numbers_text(live.failed)


def answer_net(live, words):
    need_end(words, 1)
    return net_text(live.net)


def answer_undo(live, words):
    need_end(words, 1)
    return "done" if live.undo() else "nothing"


def answer_redo(live, words):
    need_end(words, 1)
    return "done" if live.redo() else "nothing"


ANSWERS = {
    "send": answer_send,
    "step": answer_step,
    "where": answer_where,
    "choices": answer_choices,
    "hopes": answer_hopes,
    "way": answer_way,
    "fail": answer_fail,
    "mend": answer_mend,
    "row": answer_row,
    "drop": answer_drop,
    "danger": answer_danger,
    "failed": answer_failed,
    "net": answer_net,
    "undo": answer_undo,
    "redo": answer_redo,
}


def answer_of(live, line):
    """The answer to a line; an error of the package if it is none that can be answered."""
    if not isinstance(line, str):
        raise BadLine(None, None)
    words = line.split(" ")
    if words[0] not in ANSWERS:
        raise BadLine(0, 0)
    answer = ANSWERS[words[0]]
    return answer(live, words)


class Desk:
    """A live net that is led by lines."""

    def __init__(self, text):
        self.led = Live(read_net(text))

    @property
    def live(self):
        """The live net itself."""
        return self.led

    def say(self, line):
        """The answer to a line."""
        try:
            return answer_of(self.led, line)
        except (NetError, TooGreat):
            return BAD_LINE
