"""The promises once more, word by word and without any care for speed; what the package tells is compared with it."""

import itertools

from labelroads.nets import choices, fate
from labelroads.parcels import steps


def cuts(shape, stack):
    """[14]: whether a stack can be cut into the parts of a shape."""
    if not shape:
        return not stack
    item, rest = shape[0], shape[1:]
    if item == "all":
        return any(cuts(rest, stack[many:]) for many in range(len(stack) + 1))
    return bool(stack) and item in ("any", stack[0]) and cuts(rest, stack[1:])


def leads_to(shape, done, label):
    """[14]: each J to which a label leads after K items."""
    found = set()
    for place in range(done, len(shape)):
        if not all(item == "all" for item in shape[done:place]):
            break
        if shape[place] == "all":
            found.add(place)
        elif shape[place] in ("any", label):
            found.add(place + 1)
    return found


def stacks_of(labels, shape, most):
    """All stacks of a shape with at most so many labels."""
    found = []
    for many in range(most + 1):
        found.extend(stack for stack in itertools.product(labels, repeat=many) if cuts(shape, stack))
    return found


def head_of_parcel(parcel):
    road, stack = parcel
    return (road, stack[0]) if stack else (road, "")


def heads_of(net):
    return sorted((road, top) for road in range(len(net[0])) for top in ("", *net[1]))


def has_come(net, failed, goal, parcel):
    """[20]: whether a goal has come at a parcel."""
    road, stack = parcel
    head = head_of_parcel(parcel)
    house = net[0][road][1]
    what = fate(net, failed, head)
    return {
        "lost": lambda: what == "lost",
        "home": lambda: what == "home" and (len(goal) == 1 or goal[1] == house),
        "house": lambda: house == goal[1],
        "heads": lambda: head in goal[1],
        "at": lambda: road == goal[1] and cuts(goal[2], stack),
    }[goal[0]]()


def states_behind(edges, state, signs):
    """The states to which edges with signs lead."""
    found = {state}
    for sign in signs:
        found = {other for start, by, other in edges if start in found and by == sign}
    return found


def wanted_edges(net, failed, goal, edges):
    """[22]: the edges that a machine with these edges must have to be closed."""
    ways, labels, rows = net
    anything, end = len(ways), len(ways) + 1
    found = set()
    if goal[0] == "at":
        shape = goal[2]
        for done in range(len(shape) + 1):
            starts = [anything + 2 + done, *([goal[1]] if done == 0 else [])]
            for start in starts:
                for label in labels:
                    found |= {(start, label, anything + 2 + place) for place in leads_to(shape, done, label)}
                if all(item == "all" for item in shape[done:]):
                    found.add((start, "", end))
    else:
        found |= {(anything, label, anything) for label in labels} | {(anything, "", end)}
        for road, top in heads_of(net):
            if has_come(net, failed, goal, (road, (top,) if top else ())):
                found.add((road, top, anything if top else end))
    for head in heads_of(net):
        for out, word in choices(net, failed, head):
            signs = word if head[1] else (*word, "")
            found |= {(*head, state) for state in states_behind(edges, out, signs)}
    return found


def least_machine(net, failed, goal):
    """[22]: the least closed machine."""
    edges = set()
    while not wanted_edges(net, failed, goal, edges) <= edges:
        edges |= wanted_edges(net, failed, goal, edges)
    return tuple(sorted(edges))


def is_closed_machine(net, failed, goal, machine):
    return wanted_edges(net, failed, goal, set(machine)) <= set(machine)


def accepts(net, machine, parcel):
    """[21]: whether a machine accepts a parcel."""
    road, stack = parcel
    return len(net[0]) + 1 in states_behind(machine, road, (*stack, ""))


def walk_all(net, failed, starts, most_steps, most_labels):
    """A dict from the parcels that come from some others, within both bounds, to the fewest steps to them."""
    found = {parcel: 0 for parcel in starts}
    layer = list(found)
    for number in range(1, most_steps + 1):
        later = []
        for parcel in layer:
            for choice, other in steps(net, failed, parcel):
                if other not in found and len(other[1]) <= most_labels:
                    found[other] = number
                    later.append(other)
        layer = later
    return found


def fewest_to(net, failed, starts, goal, most_steps, most_labels):
    """The fewest steps behind which a goal comes from one of some parcels, within both bounds, or None."""
    found = walk_all(net, failed, starts, most_steps, most_labels)
    return min((number for parcel, number in found.items() if has_come(net, failed, goal, parcel)), default=None)
