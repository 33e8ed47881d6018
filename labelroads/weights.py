"""The fewest steps to a goal, and a way of so few."""

from labelroads.edges import lightest_path, lightest_stack, unfolded
from labelroads.errors import TooGreat
from labelroads.goals import need_way
from labelroads.machines import end_state, least_table
from labelroads.nets import choices_by_head, need_failed, need_net

MOST_STEPS = 2000


def fewest_steps(net, failed, road, shape, goal):
    """The fewest steps behind which a goal comes from a parcel on a road with some stack of a shape, or None."""
    need_net(net)
    need_failed(net, failed)
    need_way(net, road, shape, goal)
    found = lightest_stack(least_table(net, failed, goal), net[1], road, shape, end_state(net))
    return None if found is None else found[0]


def fewest_way(net, failed, road, shape, goal):
    """A pair of such a stack and so few choices, or None; TooGreat if they are more than 2,000."""
    need_net(net)
    need_failed(net, failed)
    need_way(net, road, shape, goal)
    return way_by(net, failed, road, shape, least_table(net, failed, goal))


def way_by(net, failed, road, shape, table):
    """As fewest_way, by the table of the least machine of the goal."""
    found = lightest_stack(table, net[1], road, shape, end_state(net))
    if found is None:
        return None
    number, stack = found
    if number > MOST_STEPS:
        raise TooGreat(MOST_STEPS)
    path = lightest_path(table, road, (*stack, ""), end_state(net))
    return (stack, unfolded(table, choices_by_head(net, failed), path))
