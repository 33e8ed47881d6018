"""Machines: the least closed one of a goal, which values are closed, and what can come from a parcel."""

from labelroads.edges import edges_of, is_saturated, lightest_stack, reached, saturated, table_of
from labelroads.forms import is_ascending, is_edge
from labelroads.goals import has_come_at, need_goal
from labelroads.nets import all_heads, choices_by_head, need_failed, need_net
from labelroads.parcels import need_parcel
from labelroads.shapes import leads, may_end


def any_state(net):
    """The state ANY."""
    return len(net[0])


def end_state(net):
    """The state END."""
    return any_state(net) + 1


def shape_state(net, done):
    """The state of a shape of which so many items are done."""
    return end_state(net) + 1 + done


def last_state(net, goal):
    """The greatest state of the machines of a goal."""
    return shape_state(net, len(goal[2])) if goal[0] == "at" else end_state(net)


def first_edges(net, failed, goal):
    """The edges that a closed machine has whatever choices can be taken."""
    if goal[0] == "at":
        return at_edges(net, goal[1], goal[2])
    found = [(any_state(net), label, any_state(net)) for label in net[1]]
    found.append((any_state(net), "", end_state(net)))
    for road, top in all_heads(net):
        if has_come_at(net, failed, goal, (road, top)):
            found.append((road, top, any_state(net) if top else end_state(net)))
    return found


def at_edges(net, road, shape):
    """The first edges of the goal ("at", ROAD, SHAPE)."""
    found = []
    for done in range(len(shape) + 1):
        found.extend(edges_after(net, shape, shape_state(net, done), done))
    # The state of the road is another one than that of the whole shape: edges can lead to it.
    found.extend(edges_after(net, shape, road, 0))
    return found


def edges_after(net, shape, state, done):
    """The edges from a state that stands for so many items of a shape."""
    found = [(state, label, shape_state(net, place)) for label in net[1] for place in leads(shape, done, label)]
    if may_end(shape, done):
        found.append((state, "", end_state(net)))
    return found


def least_table(net, failed, goal):
    """The table of the least closed machine; the weights are the fewest steps."""
    return saturated(first_edges(net, failed, goal), choices_by_head(net, failed))


def least(net, failed, goal):
    """The least closed machine of a goal."""
    need_net(net)
    need_failed(net, failed)
    need_goal(net, goal)
    return edges_of(least_table(net, failed, goal))


def is_machine(net, goal, value):
    """Whether any value is a machine of a goal."""
    last = last_state(net, goal)
    if not isinstance(value, tuple) or not all([is_edge(net[1], last, edge) for edge in value]):
        return False
    return is_ascending(value)


def is_closed_machine(net, failed, goal, value):
    """As is_closed, of arguments that are known to be valid."""
    if not is_machine(net, goal, value):
        return False
    table = table_of(value)
    if not all([has_edge(table, edge) for edge in first_edges(net, failed, goal)]):
        return False
    return is_saturated(table, choices_by_head(net, failed))


def has_edge(table, edge):
    """Whether a table has an edge."""
    return edge[2] in table.get(edge[:2], {})


def accepts_some(net, road, shape, table):
    """Whether the machine with this table accepts some parcel on a road with a stack of a shape."""
    return lightest_stack(table, net[1], road, shape, end_state(net)) is not None


def accepts(net, table, parcel):
    """Whether the machine with this table accepts a parcel."""
    road, stack = parcel
    return end_state(net) in reached(table, road, (*stack, ""))


def is_closed(net, failed, goal, value):
    """Whether any value is a closed machine of a goal."""
    need_net(net)
    need_failed(net, failed)
    need_goal(net, goal)
    return is_closed_machine(net, failed, goal, value)


def can_come(net, failed, parcel, goal):
    """Whether a goal can come from a parcel."""
    need_net(net)
    need_failed(net, failed)
    need_parcel(net, parcel)
    need_goal(net, goal)
    return accepts(net, least_table(net, failed, goal), parcel)
