"""How high the stacks of parcels can grow."""

from labelroads.nets import choices_by_head, need_failed, need_net
from labelroads.parcels import need_parcel
from labelroads.tops import all_links, heads_in, pop_table


def height(net, failed, parcel):
    """The greatest number of labels that the stack of a parcel can have, or None if there is no greatest."""
    need_net(net)
    need_failed(net, failed)
    need_parcel(net, parcel)
    free = choices_by_head(net, failed)
    table = pop_table(free)
    heights = {}
    for head, place, steps in heads_in(table, parcel):
        heights[head] = max(heights.get(head, 0), len(parcel[1]) - place)
    found = all_links(table, free)
    # Links that do not come back to a head are fewer than the heads: what grows for longer grows on a ring.
    for turn in range(len(free)):
        if not heighten(heights, found):
            return max(list(heights.values()))
    return None


def heighten(heights, found):
    """Follows each link once from the heads that have heights; whether a height grew, or came."""
    changed = False
    for head, other, more in found:
        if head in heights:
            labels = heights[head] - own_label(head) + more + own_label(other)
            if labels > heights.get(other, -1):
                heights[other] = labels
                changed = True
    return changed


def own_label(head):
    """How many labels a head itself has."""
    return 1 if head[1] else 0
