"""Goals, and whether they have come."""

from labelroads.errors import BadGoal
from labelroads.forms import is_goal
from labelroads.nets import known_fate, need_road
from labelroads.parcels import head_at
from labelroads.shapes import has_shape, need_shape


def need_goal(net, goal):
    """BadGoal if this is no goal of the net."""
    if not is_goal(net[0], net[1], goal):
        raise BadGoal(goal)


def need_way(net, road, shape, goal):
    """The error of the first of these that is none of the net: where ways begin, and the goal in which they end."""
    need_road(net, road)
    need_shape(net, shape)
    need_goal(net, goal)


def has_come_at(net, failed, goal, head):
    """Whether a goal other than ("at", ROAD, SHAPE) has come at a head."""
    if goal[0] == "heads":
        return head in goal[1]
    house = net[0][head[0]][1]
    if len(goal) == 2 and goal[1] != house:
        return False
    return goal[0] == "house" or goal[0] == known_fate(net, failed, head)


def has_come(net, failed, goal, parcel):
    """Whether a goal has come at a parcel, the stack being of any height."""
    road, stack = parcel
    if goal[0] == "at":
        return road == goal[1] and has_shape(goal[2], stack)
    return has_come_at(net, failed, goal, head_at(road, stack))
