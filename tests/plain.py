"""The promises once more, word by word and without any care for speed; what the package tells is compared with it."""

import itertools

from labelroads.nets import choices, failures, fate
from labelroads.parcels import steps
from labelroads.weights import fewest_steps


def cuts(shape, stack):
    """[14]: whether a stack can be cut into the parts of a shape."""
    if not shape:
        return not stack
    item, rest = shape[0], shape[1:]
    if item == "all":
        return any(cuts(rest, stack[many:]) for many in range(len(stack) + 1))
    return bool(stack) and item in ("any", stack[0]) and cuts(rest, stack[1:])


def leads_to(shape, done, label):
    """[14]: each J to which a label leads after K items."""
    found = set()
    for place in range(done, len(shape)):
        if not all(item == "all" for item in shape[done:place]):
            break
        if shape[place] == "all":
            found.add(place)
        elif shape[place] in ("any", label):
            found.add(place + 1)
    return found


def stacks_of(labels, shape, most):
    """All stacks of a shape with at most so many labels."""
    found = []
    for many in range(most + 1):
        found.extend(stack for stack in itertools.product(labels, repeat=many) if cuts(shape, stack))
    return found


def head_of_parcel(parcel):
    road, stack = parcel
    return (road, stack[0]) if stack else (road, "")


def heads_of(net):
    return sorted((road, top) for road in range(len(net[0])) for top in ("", *net[1]))


def has_come(net, failed, goal, parcel):
    """[20]: whether a goal has come at a parcel."""
    road, stack = parcel
    head = head_of_parcel(parcel)
    house = net[0][road][1]
    what = fate(net, failed, head)
    return {
        "lost": lambda: what == "lost",
        "home": lambda: what == "home" and (len(goal) == 1 or goal[1] == house),
        "house": lambda: house == goal[1],
        "heads": lambda: head in goal[1],
        "at": lambda: road == goal[1] and cuts(goal[2], stack),
    }[goal[0]]()


def states_behind(edges, state, signs):
    """The states to which edges with signs lead."""
    found = {state}
    for sign in signs:
        found = {other for start, by, other in edges if start in found and by == sign}
    return found


def wanted_edges(net, failed, goal, edges):
    """[22]: the edges that a machine with these edges must have to be closed."""
    ways, labels, rows = net
    anything, end = len(ways), len(ways) + 1
    found = set()
    if goal[0] == "at":
        shape = goal[2]
        for done in range(len(shape) + 1):
            starts = [anything + 2 + done, *([goal[1]] if done == 0 else [])]
            for start in starts:
                for label in labels:
                    found |= {(start, label, anything + 2 + place) for place in leads_to(shape, done, label)}
                if all(item == "all" for item in shape[done:]):
                    found.add((start, "", end))
    else:
        found |= {(anything, label, anything) for label in labels} | {(anything, "", end)}
        for road, top in heads_of(net):
            if has_come(net, failed, goal, (road, (top,) if top else ())):
                found.add((road, top, anything if top else end))
    for head in heads_of(net):
        for out, word in choices(net, failed, head):
            signs = word if head[1] else (*word, "")
            found |= {(*head, state) for state in states_behind(edges, out, signs)}
    return found


def least_machine(net, failed, goal):
    """[22]: the least closed machine."""
    edges = set()
    while not wanted_edges(net, failed, goal, edges) <= edges:
        edges |= wanted_edges(net, failed, goal, edges)
    return tuple(sorted(edges))


def is_closed_machine(net, failed, goal, machine):
    return wanted_edges(net, failed, goal, set(machine)) <= set(machine)


def accepts(net, machine, parcel):
    """[21]: whether a machine accepts a parcel."""
    road, stack = parcel
    return len(net[0]) + 1 in states_behind(machine, road, (*stack, ""))


def all_steps(net, failed, starts, most_steps, goes_on):
    """Pairs of a number and a parcel that comes by so many steps; they go on from such as goes_on lets by, once."""
    seen = set(starts)
    layer = list(seen)
    for number in range(1, most_steps + 1):
        later = []
        for parcel in layer:
            for choice, other in steps(net, failed, parcel):
                yield number, other
                if goes_on(other) and other not in seen:
                    seen.add(other)
                    later.append(other)
        if not later:
            return
        layer = later


def walk_all(net, failed, starts, most_steps, most_labels):
    """A dict from the parcels that come from some others, within both bounds, to the fewest steps to them."""
    def is_low(parcel):
        return len(parcel[1]) <= most_labels

    found = {parcel: 0 for parcel in starts}
    for number, parcel in all_steps(net, failed, starts, most_steps, is_low):
        if is_low(parcel):
            found.setdefault(parcel, number)
    return found


def fewest_to(net, failed, starts, goal, most_steps, most_labels):
    """The fewest steps behind which a goal comes from one of some parcels, within both bounds, or None."""
    found = walk_all(net, failed, starts, most_steps, most_labels)
    return min((number for parcel, number in found.items() if has_come(net, failed, goal, parcel)), default=None)


def popped_off(triples, road, word):
    """[30]: the roads to which a word is popped off from a road, with some triples as the pops."""
    if not word:
        return {road}
    found = set()
    for start, label, other in triples:
        if start == road and label == word[0]:
            found |= popped_off(triples, other, word[1:])
    return found


def wanted_pops(net, failed, triples):
    """[30]: the pops that the rule wants, with some triples as the pops."""
    found = set()
    for road, top in heads_of(net):
        if top:
            for out, word in choices(net, failed, (road, top)):
                found |= {(road, top, other) for other in popped_off(triples, out, word)}
    return found


def all_pops(net, failed):
    found = set()
    while not wanted_pops(net, failed, found) <= found:
        found |= wanted_pops(net, failed, found)
    return found


def all_links(net, failed, triples):
    """[31]: the links, with some triples as the pops."""
    found = set()
    for head in heads_of(net):
        for out, word in choices(net, failed, head):
            for place, label in enumerate(word):
                for road in popped_off(triples, out, word[:place]):
                    found.add((head, (road, label), len(word[place + 1 :])))
            if head[1] == "":
                found |= {(head, (road, ""), 0) for road in popped_off(triples, out, word)}
    return found


def first_heads(triples, parcel):
    """[32]: the heads that come from a parcel without links, with some triples as the pops."""
    road, stack = parcel
    found = set()
    for place, label in enumerate(stack):
        found |= {(other, label) for other in popped_off(triples, road, stack[:place])}
    return found | {(other, "") for other in popped_off(triples, road, stack)}


def heads_on(links, starts):
    """Some heads, and all to which links lead from them, one behind the other."""
    found = set(starts)
    while True:
        more = {other for head, other, below in links if head in found}
        if more <= found:
            return found
        found |= more


def heads_that_come(net, failed, parcel):
    triples = all_pops(net, failed)
    return heads_on(all_links(net, failed, triples), first_heads(triples, parcel))


def heads_on_rings(net, failed):
    """[33]: the heads from which one link or more lead back to them."""
    links = all_links(net, failed, all_pops(net, failed))
    found = set()
    for start in heads_of(net):
        if start in heads_on(links, [other for head, other, below in links if head == start]):
            found.add(start)
    return found


def fewest_pops(net, failed, road, label, most_steps, most_labels):
    """[30]'s fact: a dict from roads to the fewest steps from a lone label to an empty stack, within both bounds."""
    found = {}
    told = all_steps(net, failed, [(road, (label,))], most_steps, lambda parcel: 0 < len(parcel[1]) <= most_labels)
    for number, parcel in told:
        if parcel[1] == ():
            found.setdefault(parcel[0], number)
    return found


def fewest_ring(net, failed, head, most_steps, most_labels):
    """[34]: the fewest choices of a RING behind which a head is there again, within both bounds, or None."""
    road, top = head
    start = (road, (top,) if top else ())
    told = all_steps(net, failed, [start], most_steps, lambda parcel: len(start[1]) <= len(parcel[1]) <= most_labels)
    for number, parcel in told:
        if head_of_parcel(parcel) == head:
            return number
    return None


def goes_for_ever(net, failed, parcel):
    """[33]: whether there is an endless row of steps, of a net in which no stack grows."""
    all_parcels = walk_all(net, failed, [parcel], 10**6, 10**6)
    behind = {other: {more for choice, more in steps(net, failed, other)} for other in all_parcels}
    left = {other: len(more) for other, more in behind.items()}
    ahead = {other: [] for other in all_parcels}
    for other, more in behind.items():
        for one in more:
            ahead[one].append(other)
    ended = [other for other, many in left.items() if many == 0]
    # Whoever can only go to such as end ends too; what is left at last goes on.
    for other in ended:
        for one in ahead[other]:
            left[one] -= 1
            if left[one] == 0:
                ended.append(one)
    return len(ended) < len(all_parcels)


def longest_links(links, head):
    """[34]: the greatest number of links that can lead on from a head, of which none comes back."""
    return max((1 + longest_links(links, other) for start, other, below in links if start == head), default=0)


def is_ends(net, failed, parcel, triples, ranks):
    """[34]: whether POPS and RANKS, of the right kinds, show that a parcel ends."""
    if not wanted_pops(net, failed, triples) <= set(triples):
        return False
    told = dict(ranks)
    if not first_heads(triples, parcel) <= set(told):
        return False
    links = [link for link in all_links(net, failed, triples) if link[0] in told]
    return all(other in told and told[other] < told[head] for head, other, below in links)


def outcomes_of(net, failed, parcel):
    """[37]: the outcomes of a parcel."""
    found = set()
    on_rings = heads_on_rings(net, failed)
    for head in heads_that_come(net, failed, parcel):
        what = fate(net, failed, head)
        if head in on_rings:
            found.add(("ever",))
        if what == "home":
            found.add(("home", net[0][head[0]][1]))
        if what == "lost":
            found.add(("lost",))
    return found


def parcels_of(net, most):
    """All parcels with stacks of at most so many labels, the lower ones first."""
    for stack in stacks_of(net[1], ("all",), most):
        for road in range(len(net[0])):
            yield road, stack


def partings(one, other, failed, most):
    """[38]: all partings with some failed roads by stacks of at most so many labels, the lower ones first."""
    for parcel in parcels_of(one, most):
        for outcome in sorted(outcomes_of(one, failed, parcel) ^ outcomes_of(other, failed, parcel)):
            yield failed, parcel, outcome


def group_taken(groups, failed):
    """[40]: the number of the group of which choices can be taken, 0 of "home", or None."""
    if groups == "home":
        return 0
    for number, group in enumerate(groups):
        if any(out not in failed for out, word in group):
            return number
    return None


def serving(net, most, entries):
    """[40]: the groups that serve, whether their heads come being asked by the machines."""
    found = set()
    for failed in failures(net, most):
        for head, groups in net[2]:
            number = group_taken(groups, failed)
            goal = ("heads", (head,))
            if number is not None and any(fewest_steps(net, failed, *entry, goal) is not None for entry in entries):
                found.add((*head, number))
    return found


def partitions(items):
    """All ways to part items into classes."""
    if not items:
        yield []
        return
    for classes in partitions(items[1:]):
        yield [[items[0]], *classes]
        for place in range(len(classes)):
            yield [*classes[:place], [items[0], *classes[place]], *classes[place + 1 :]]


def sight(net, classes, road, label):
    """[41]: what a label has on a road when the labels of all words are replaced by their classes."""
    number = {one: place for place, members in enumerate(classes) for one in members}
    groups = dict(net[2]).get((road, label))
    if groups is None or groups == "home":
        return groups
    return [{(out, tuple(number[one] for one in word)) for out, word in group} for group in groups]


def are_twins(net, classes):
    """[41]: whether any two labels of a class are as twins have to be."""
    for members in classes:
        for one, other in itertools.combinations(members, 2):
            for road in range(len(net[0])):
                if sight(net, classes, road, one) != sight(net, classes, road, other):
                    return False
    return True


def twins(net):
    """[41]: the coarsest classes, which are coarser than all others."""
    told = [classes for classes in partitions(list(net[1])) if are_twins(net, classes)]
    fine = [{frozenset(members) for members in classes} for classes in told]
    coarsest = min(fine, key=len)
    for classes in fine:
        assert all(any(members <= whole for whole in coarsest) for members in classes)
    return coarsest


def replaced(net, stack):
    """[41]: the stack with each label replaced by the first one of its class."""
    return tuple(
        next(label for label in net[1] if label in members)
        for one in stack for members in twins(net) if one in members
    )
