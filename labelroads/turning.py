"""What a change of a row turns."""

from labelroads.likeness import known_parted
from labelroads.nets import need_head, need_most, need_net


def with_row(net, head, groups):
    """The net with this row for a head, in the place of the one that it has; without one if groups is None."""
    need_net(net)
    need_head(net, head)
    return changed_net(net, head, groups)


def changed_net(net, head, groups):
    """As with_row, of a net and a head that are known to be valid."""
    return without_row(net, head) if groups is None else with_groups(net, head, groups)


def with_groups(net, head, groups):
    """The net with any value as the GROUPS of a head; BadNet if it is none then."""
    roads, labels, rows = net
    before = [row for row in rows if row[0] < head]
    behind = [row for row in rows if row[0] > head]
    return need_net((roads, labels, (*before, (head, groups), *behind)))


def without_row(net, head):
    """The net without a row for a head."""
    return (net[0], net[1], tuple([row for row in net[2] if row[0] != head]))


def turned_parcel(net, head, groups, most):
    """What parted tells of the net and of the net with this row for a head."""
    need_net(net)
    need_head(net, head)
    need_most(most)
    return known_parted(net, changed_net(net, head, groups), most)
