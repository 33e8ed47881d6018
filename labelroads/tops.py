"""What the top of a stack does: which labels are popped off, which heads link to which, and the heads that come.

Pops are edges from roads by labels to roads: they are the edges that the choices add where there are no others. So
a table of labelroads.edges has the pops with their steps, and free is what it is there.
"""

from labelroads.edges import edges_of, layers, saturated, signs_of, weight_of
from labelroads.errors import BadGoal
from labelroads.goals import has_come_at, need_goal
from labelroads.nets import choices_by_head, need_failed, need_net
from labelroads.parcels import need_parcel


def pop_table(free):
    """The table of all pops; the weights are their fewest steps."""
    return saturated((), free)


def pops(net, failed):
    """All pops, ascending."""
    need_net(net)
    need_failed(net, failed)
    return edges_of(pop_table(choices_by_head(net, failed)))


def pop_steps(net, failed):
    """A dict from the pops, ascending, to the fewest steps that they stand for."""
    need_net(net)
    need_failed(net, failed)
    table = pop_table(choices_by_head(net, failed))
    return {pop: weight_of(table, pop) for pop in edges_of(table)}


def heads_along(table, road, labels, tops):
    """The heads that come as labels are popped off, one after the other, from a road.

    Tops are the labels that can be tops then, with "" behind them if no label is below. Returns triples of a head,
    how many labels are popped off ahead of it, and the fewest steps for that.
    """
    found = []
    for place, (layer, top) in enumerate(zip(layers(table, road, labels), tops)):
        found.extend([((state, top), place, steps) for state, steps in layer.items()])
    return found


def heads_in(table, parcel):
    """What heads_along tells of the stack of a parcel: the heads that come from it without links."""
    road, stack = parcel
    return heads_along(table, road, stack, (*stack, ""))


def heads_behind(table, head, choice):
    """What heads_along tells of the word of a choice at a head: the heads to which it links."""
    out, word = choice
    return heads_along(table, out, word, signs_of(head, word))


def all_links(table, free):
    """All links, ascending, each once."""
    found = []
    for head in free:
        for choice in free[head]:
            for other, place, steps in heads_behind(table, head, choice):
                # A head without a label has its place behind all labels, and none of them is below it.
                found.append((head, other, max(0, len(choice[1]) - place - 1)))
    return tuple(sorted(set(found)))


def links(net, failed):
    """All links, ascending."""
    need_net(net)
    need_failed(net, failed)
    free = choices_by_head(net, failed)
    return all_links(pop_table(free), free)


def linked_heads(table, free):
    """A dict from heads to those to which links lead from them."""
    found = {}
    for head, other, more in all_links(table, free):
        others = found.setdefault(head, [])
        others.append(other)
    return found


def heads_on(linked, starts):
    """Some heads and all to which links lead from them, one behind the other, ascending."""
    found = {}
    waiting = list(starts)
    while waiting:
        head = waiting.pop()
        if head not in found:
            found[head] = True
            waiting.extend(linked.get(head, ()))
    return tuple(sorted(list(found)))


def coming_heads(table, linked, parcel):
    """The heads that come from a parcel, ascending."""
    return heads_on(linked, [head for head, place, steps in heads_in(table, parcel)])


def known_heads_from(net, failed, parcel):
    """As heads_from, of arguments that are known to be valid."""
    free = choices_by_head(net, failed)
    table = pop_table(free)
    return coming_heads(table, linked_heads(table, free), parcel)


def heads_from(net, failed, parcel):
    """The heads that come from a parcel, ascending."""
    need_net(net)
    need_failed(net, failed)
    need_parcel(net, parcel)
    return known_heads_from(net, failed, parcel)


def comes_by_heads(net, failed, parcel, goal):
    """Whether a goal other than ("at", ROAD, SHAPE) can come from a parcel, as its heads tell."""
    need_net(net)
    need_failed(net, failed)
    need_parcel(net, parcel)
    need_goal(net, goal)
    if goal[0] == "at":
        raise BadGoal(goal)
    return any([has_come_at(net, failed, goal, head) for head in known_heads_from(net, failed, parcel)])
