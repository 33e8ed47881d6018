"""Nets: what they are, their heads, and what can be taken at a head with some failed roads."""

from labelroads.errors import BadFailed, BadHead, BadNet, BadNumber, BadRoad
from labelroads.forms import (
    can_be_label, is_failed, is_head, is_house, is_house_pair, is_number, is_road, is_row, is_tuple,
)

MOST_ROADS = 10
MOST_LABELS = 4
MOST_FAILED = 2


def need_net(net):
    """The net itself; BadNet with the place of the first fault for any other value."""
    if not is_tuple(net, 3, 3):
        raise BadNet(())
    roads, labels, rows = net
    need_roads(roads)
    need_labels(labels)
    need_rows(roads, labels, rows)
    return net


def need_roads(roads):
    """BadNet if this is not the first item of a net."""
    if not is_tuple(roads, 1, MOST_ROADS):
        raise BadNet(("roads",))
    for place, road in enumerate(roads):
        if not is_house_pair(road):
            raise BadNet(("roads", place))


def need_labels(labels):
    """BadNet if this is not the second item of a net."""
    if not is_tuple(labels, 1, MOST_LABELS):
        raise BadNet(("labels",))
    for place, label in enumerate(labels):
        if not can_be_label(label) or label in labels[:place]:
            raise BadNet(("labels", place))


def need_rows(roads, labels, rows):
    """BadNet if this is not the third item of a net with these roads and labels."""
    if not is_tuple(rows, 0, len(roads) * (len(labels) + 1)):
        raise BadNet(("rows",))
    for place, row in enumerate(rows):
        if not is_row(roads, labels, row) or place > 0 and row[0] <= rows[place - 1][0]:
            raise BadNet(("rows", place))


def need_failed(net, failed):
    """BadFailed if these are no failed roads of the net."""
    if not is_failed(net[0], failed):
        raise BadFailed(failed)


def need_head(net, head):
    """BadHead if this is no head of the net."""
    if not is_head(net[0], net[1], head):
        raise BadHead(head)


def need_road(net, road):
    """BadRoad if this is no road of the net."""
    if not is_road(net[0], road):
        raise BadRoad(road)


def need_house(house):
    """BadNumber if this is no house."""
    if not is_house(house):
        raise BadNumber(house)


def need_most(most):
    """BadNumber if this is no number of roads that may fail."""
    if not is_number(most, 0, MOST_FAILED):
        raise BadNumber(most)


def heads(net):
    """All heads, ascending."""
    need_net(net)
    return all_heads(net)


def all_heads(net):
    """As heads, of a net that is known to be one."""
    tops = sorted(["", *net[1]])
    return tuple([(road, top) for road in range(len(net[0])) for top in tops])


def groups_at(net, head):
    """The GROUPS of the row of a head; if it has no row, there is no group."""
    for row_head, groups in net[2]:
        if row_head == head:
            return groups
    return ()


def free_choices(net, failed, head):
    """The choices that can be taken, of arguments that are known to be valid."""
    groups = groups_at(net, head)
    if groups == "home":
        return ()
    for group in groups:
        free = [choice for choice in group if choice[0] not in failed]
        if free:
            return tuple(sorted(free))
    return ()


def choices_by_head(net, failed):
    """A dict from all heads, ascending, to the choices that can be taken there, of arguments known to be valid."""
    return {head: free_choices(net, failed, head) for head in all_heads(net)}


def choices(net, failed, head):
    """The choices that can be taken at a head, ascending."""
    need_net(net)
    need_failed(net, failed)
    need_head(net, head)
    return free_choices(net, failed, head)


def fate(net, failed, head):
    """The fate of a head: "home", "goes" or "lost"."""
    need_net(net)
    need_failed(net, failed)
    need_head(net, head)
    return known_fate(net, failed, head)


def known_fate(net, failed, head):
    """As fate, of arguments that are known to be valid."""
    if groups_at(net, head) == "home":
        return "home"
    return "goes" if free_choices(net, failed, head) else "lost"


def failures(net, most):
    """All sets of at most so many failed roads, the smaller sets first."""
    need_net(net)
    need_most(most)
    return failed_sets(net, most)


def failed_sets(net, most):
    """As failures, of arguments that are known to be valid."""
    found = [()]
    larger = [()]
    for size in range(most):
        larger = [(*failed, road) for failed in larger for road in range(len(net[0])) if failed[-1:] < (road,)]
        found.extend(larger)
    return tuple(found)
