"""The forms of values: each function tells whether a value of any kind has one.

What a value is gets asked before it is compared: 1 == True, and an object may say that it equals all.
"""

MOST_HOUSE = 7
MOST_LETTERS = 8
MOST_WORD = 3
MOST_CHOICES = 3
MOST_GROUPS = 3
MOST_ITEMS = 6


def is_number(value, least, greatest):
    """Whether it is an integer from least to greatest; True and False are none."""
    return isinstance(value, int) and not isinstance(value, bool) and least <= value <= greatest


def is_tuple(value, least, greatest):
    """Whether it is a tuple of at least and at most so many items."""
    return isinstance(value, tuple) and least <= len(value) <= greatest


def is_pair(value):
    return is_tuple(value, 2, 2)


def is_word(value):
    """Whether it is a string of 1 to 8 letters from a to z."""
    if not isinstance(value, str) or not 1 <= len(value) <= MOST_LETTERS:
        return False
    return all(["a" <= letter <= "z" for letter in value])


def is_house(value):
    return is_number(value, 0, MOST_HOUSE)


def is_house_pair(value):
    """Whether it is a pair of houses, as ROADS has them."""
    return is_pair(value) and is_house(value[0]) and is_house(value[1])


def can_be_label(value):
    """Whether it is a word that can be a label."""
    return is_word(value) and value not in ("any", "all")


def is_road(roads, value):
    return is_number(value, 0, len(roads) - 1)


def is_label(labels, value):
    return isinstance(value, str) and value in labels


def is_labels(labels, value, most):
    """Whether it is a tuple of at most so many labels."""
    return is_tuple(value, 0, most) and all([is_label(labels, label) for label in value])


def is_sign(labels, value):
    """Whether it is a label, or the empty string."""
    return isinstance(value, str) and (value == "" or value in labels)


def is_head(roads, labels, value):
    return is_pair(value) and is_road(roads, value[0]) and is_sign(labels, value[1])


def is_ascending(values):
    """Whether values that can be compared stand in their order, none twice."""
    return all([low < high for low, high in zip(values, values[1:])])


def is_failed(roads, value):
    """Whether it is an ascending tuple of roads."""
    return is_tuple(value, 0, len(roads)) and all([is_road(roads, road) for road in value]) and is_ascending(value)


def is_choice(roads, labels, road, value):
    """Whether it is a choice behind this road."""
    if not is_pair(value) or not is_road(roads, value[0]):
        return False
    out, word = value
    return roads[out][0] == roads[road][1] and is_labels(labels, word, MOST_WORD)


def is_group(roads, labels, road, value):
    """Whether it is a group behind this road."""
    if not is_tuple(value, 1, MOST_CHOICES):
        return False
    return all([is_choice(roads, labels, road, choice) for choice in value]) and len(set(value)) == len(value)


def is_groups(roads, labels, road, value):
    """Whether it can be the GROUPS of a row whose head has this road."""
    if isinstance(value, str):
        return value == "home"
    return is_tuple(value, 1, MOST_GROUPS) and all([is_group(roads, labels, road, group) for group in value])


def is_row(roads, labels, value):
    if not is_pair(value) or not is_head(roads, labels, value[0]):
        return False
    return is_groups(roads, labels, value[0][0], value[1])


def is_shape(labels, value):
    """Whether it is a tuple of items, each a label, "any" or "all"."""
    if not is_tuple(value, 0, MOST_ITEMS):
        return False
    return all([is_label(("any", "all", *labels), item) for item in value])


def is_entry(roads, labels, value):
    """Whether it is a pair of a road and a shape."""
    return is_pair(value) and is_road(roads, value[0]) and is_shape(labels, value[1])


def is_heads(roads, labels, value):
    """Whether it is an ascending tuple of heads."""
    if not isinstance(value, tuple) or not all([is_head(roads, labels, head) for head in value]):
        return False
    return is_ascending(value)


def is_goal(roads, labels, value):
    if not is_tuple(value, 1, 3) or not isinstance(value[0], str):
        return False
    word = value[0]
    if len(value) == 1:
        return word in ("lost", "home")
    if len(value) == 3:
        return word == "at" and is_road(roads, value[1]) and is_shape(labels, value[2])
    if word == "heads":
        return is_heads(roads, labels, value[1])
    return word in ("home", "house") and is_house(value[1])


def is_edge(labels, last, value):
    """Whether it is an edge of a machine whose states are the integers from 0 to the last one."""
    if not is_tuple(value, 3, 3):
        return False
    return is_number(value[0], 0, last) and is_sign(labels, value[1]) and is_number(value[2], 0, last)


def is_pop(roads, labels, value):
    """Whether it is a triple of a road, a label and a road."""
    if not is_tuple(value, 3, 3):
        return False
    return is_road(roads, value[0]) and is_label(labels, value[1]) and is_road(roads, value[2])


def is_pops(roads, labels, value):
    """Whether it is an ascending tuple of triples of a road, a label and a road."""
    return isinstance(value, tuple) and all([is_pop(roads, labels, pop) for pop in value]) and is_ascending(value)


def is_rank(value):
    """Whether it is an integer from 0 on."""
    return isinstance(value, int) and not isinstance(value, bool) and value >= 0


def is_ranks(roads, labels, value):
    """Whether it is a tuple of pairs of a head and a rank, ascending by the heads."""
    if not isinstance(value, tuple) or not all([is_pair(pair) for pair in value]):
        return False
    if not all([is_head(roads, labels, head) and is_rank(rank) for head, rank in value]):
        return False
    return is_ascending([head for head, rank in value])
