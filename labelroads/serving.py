"""Which groups of choices serve the parcels that enter a net, and the net without all others."""

from labelroads.errors import BadEntries
from labelroads.forms import is_entry, is_tuple
from labelroads.nets import choices_by_head, failed_sets, need_most, need_net
from labelroads.shapes import leads, may_end
from labelroads.tops import heads_on, linked_heads, pop_table

MOST_ENTRIES = 6


def need_entries(net, entries):
    """BadEntries if these are no entries of the net."""
    if not is_tuple(entries, 1, MOST_ENTRIES):
        raise BadEntries(None)
    for place, entry in enumerate(entries):
        if not is_entry(net[0], net[1], entry):
            raise BadEntries(place)


def serving(net, most, entries):
    """Triples of the road and the label of a row's head and the number of a group that serves, ascending."""
    need_net(net)
    need_most(most)
    need_entries(net, entries)
    return known_serving(net, most, entries)


def known_serving(net, most, entries):
    """As serving, of arguments that are known to be valid."""
    found = []
    for failed in failed_sets(net, most):
        coming = coming_heads_of(net, failed, entries)
        for head, groups in net[2]:
            number = used_group(groups, failed)
            if head in coming and number is not None:
                found.append((*head, number))
    return tuple(sorted(set(found)))


def used_group(groups, failed):
    """The number of the group of which choices can be taken, or None; "home" counts as the group 0."""
    if groups == "home":
        return 0
    for number, group in enumerate(groups):
        if any([out not in failed for out, word in group]):
            return number
    return None


def coming_heads_of(net, failed, entries):
    """The heads that come from parcels of the entries."""
    free = choices_by_head(net, failed)
    table = pop_table(free)
    starts = [head for entry in entries for head in entered_heads(table, net[1], entry)]
    return heads_on(linked_heads(table, free), starts)


def entered_heads(table, labels, entry):
    """The heads that come from the parcels of an entry without links.

    A node is a pair of a road and a number of items of the shape: to the road are popped off labels that the items
    can be. Any other items can be some labels, too, so a parcel of the entry goes on from each node.
    """
    road, shape = entry
    waiting = [(road, 0)]
    seen = {}
    found = []
    while waiting:
        node = waiting.pop()
        if node not in seen:
            seen[node] = True
            found.extend(heads_at_node(labels, shape, node))
            waiting.extend(nodes_behind(table, labels, shape, node))
    return found


def heads_at_node(labels, shape, node):
    """The heads that come at a node."""
    road, done = node
    found = [(road, label) for label in labels if leads(shape, done, label)]
    if may_end(shape, done):
        found.append((road, ""))
    return found


def nodes_behind(table, labels, shape, node):
    """The nodes that lie behind a node by one label that is popped off."""
    road, done = node
    found = []
    for label in labels:
        for place in leads(shape, done, label):
            found.extend([(other, place) for other in table.get((road, label), {})])
    return found


def pruned(net, most, entries):
    """The net without the groups that do not serve, and without the rows of which none does."""
    need_net(net)
    need_most(most)
    need_entries(net, entries)
    served = known_serving(net, most, entries)
    rows = [(head, served_groups(served, head, groups)) for head, groups in net[2]]
    return (net[0], net[1], tuple([row for row in rows if row[1]]))


def served_groups(served, head, groups):
    """The groups of a row that serve; "home" as it is, or () if it does not serve."""
    if groups == "home":
        return groups if (*head, 0) in served else ()
    return tuple([group for number, group in enumerate(groups) if (*head, number) in served])
