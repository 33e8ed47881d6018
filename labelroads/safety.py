"""Parcels that come home at a house, whichever of some roads fail."""

from labelroads.edges import shortest_stack
from labelroads.machines import end_state, least_table
from labelroads.nets import MOST_FAILED, choices_by_head, failed_sets, need_house, need_most, need_net, need_road
from labelroads.outcomes import known_outcomes, outcomes_at_heads
from labelroads.shapes import need_shape
from labelroads.tops import linked_heads, pop_table


def comes_home(net, most, road, shape, house):
    """Whether parcels on a road with stacks of a shape come home at a house, at most so many roads failing."""
    return unsafe(net, most, road, shape, house) is None


def unsafe(net, most, road, shape, house):
    """None if they do; else the first failed roads, a shortest stack, and an outcome of it that is another one."""
    need_net(net)
    need_most(most)
    need_road(net, road)
    need_shape(net, shape)
    need_house(house)
    return first_unsafe(net, most, road, shape, house)


def sturdy(net, road, shape, house):
    """The greatest number of roads, up to 2, that may fail such that they do; None if not even without failures."""
    need_net(net)
    need_road(net, road)
    need_shape(net, shape)
    need_house(house)
    found = first_unsafe(net, MOST_FAILED, road, shape, house)
    if found is None:
        return MOST_FAILED
    # The sets of failed roads are ordered by how many they are: all smaller ones are safe.
    return len(found[0]) - 1 if found[0] else None


def first_unsafe(net, most, road, shape, house):
    """As unsafe, of arguments that are known to be valid."""
    for failed in failed_sets(net, most):
        stack = shortest_unsafe(net, failed, road, shape, house)
        if stack is not None:
            told = [outcome for outcome in known_outcomes(net, failed, (road, stack)) if outcome != ("home", house)]
            return (failed, stack, told[0])
    return None


def shortest_unsafe(net, failed, road, shape, house):
    """A shortest stack of a shape that has another outcome on a road, or None."""
    table = least_table(net, failed, ("heads", unsafe_heads(net, failed, house)))
    return shortest_stack(table, net[1], road, shape, end_state(net))


def unsafe_heads(net, failed, house):
    """The heads that themselves tell another outcome than to come home at a house, ascending."""
    free = choices_by_head(net, failed)
    own = outcomes_at_heads(net, failed, linked_heads(pop_table(free), free))
    return tuple([head for head in own if own[head] not in (None, ("home", house))])
