"""Questions whether a goal can come by failed roads, and papers that show the answers."""

from labelroads.edges import edges_of, table_of
from labelroads.errors import BadChoices, BadPaper
from labelroads.forms import is_failed, is_labels, is_tuple
from labelroads.goals import has_come, need_way
from labelroads.machines import accepts_some, is_closed_machine, least_table
from labelroads.nets import failed_sets, need_most, need_net
from labelroads.parcels import walk
from labelroads.shapes import has_shape
from labelroads.weights import MOST_STEPS, way_by


def can(net, most, road, shape, goal):
    """Whether a goal can come from a parcel on a road with some stack of a shape, at most so many roads failing."""
    need_net(net)
    need_most(most)
    need_way(net, road, shape, goal)
    for failed in failed_sets(net, most):
        if accepts_some(net, road, shape, least_table(net, failed, goal)):
            return True
    return False


def paper(net, most, road, shape, goal):
    """A paper on a question: a way of the fewest steps, or the least machines."""
    need_net(net)
    need_most(most)
    need_way(net, road, shape, goal)
    machines = []
    for failed in failed_sets(net, most):
        table = least_table(net, failed, goal)
        way = way_by(net, failed, road, shape, table)
        if way is not None:
            return ("way", failed, *way)
        machines.append(edges_of(table))
    return ("never", tuple(machines))


def check(net, most, road, shape, goal, value):
    """The word of a paper on a question; BadPaper for any value that is none."""
    need_net(net)
    need_most(most)
    need_way(net, road, shape, goal)
    word = word_of(value)
    if word == "way" and not is_way(net, most, road, shape, goal, value):
        raise BadPaper("way")
    if word == "never" and not are_machines(net, most, road, shape, goal, value[1]):
        raise BadPaper("never")
    return word


def word_of(value):
    """The word of any value that has the form of a paper."""
    if isinstance(value, tuple) and value and isinstance(value[0], str):
        if (len(value), value[0]) in ((4, "way"), (2, "never")):
            return value[0]
    raise BadPaper("form")


def is_way(net, most, road, shape, goal, value):
    """Whether the parts of a paper with the word "way" are as told."""
    failed, stack, taken = value[1:]
    if not is_failed(net[0], failed) or len(failed) > most:
        return False
    if not isinstance(stack, tuple) or not is_labels(net[1], stack, len(stack)) or not has_shape(shape, stack):
        return False
    if not is_tuple(taken, 0, MOST_STEPS):
        return False
    try:
        parcel = walk(net, failed, (road, stack), taken)
    except BadChoices:
        return False
    return has_come(net, failed, goal, parcel)


def are_machines(net, most, road, shape, goal, machines):
    """Whether any value is a closed machine for each set of failed roads, none of which accepts such a parcel."""
    sets = failed_sets(net, most)
    if not is_tuple(machines, len(sets), len(sets)):
        return False
    for failed, machine in zip(sets, machines):
        if not is_closed_machine(net, failed, goal, machine) or accepts_some(net, road, shape, table_of(machine)):
            return False
    return True
