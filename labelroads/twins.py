"""Labels that are twins, and the net in which one of each class stands for all.

Classes are told by a dict from the labels to the first label of their class.
"""

from labelroads.nets import groups_at, need_net
from labelroads.parcels import need_parcel


def twins(net):
    """The classes of labels that are twins, each in the order of the labels, by the first ones."""
    need_net(net)
    firsts = first_twins(net)
    return tuple([tuple([label for label in net[1] if firsts[label] == first]) for first in first_ones(net, firsts)])


def first_ones(net, firsts):
    """The labels that are the first ones of their classes, in their order."""
    return tuple([label for label in net[1] if firsts[label] == label])


def first_twins(net):
    """The dict that tells the coarsest classes of twins."""
    firsts = {label: net[1][0] for label in net[1]}
    finer = parted_classes(net, firsts)
    while finer != firsts:
        firsts = finer
        finer = parted_classes(net, firsts)
    return firsts


def parted_classes(net, firsts):
    """The classes parted into such as have rows that are alike, by the classes as they were."""
    seen = []
    found = {}
    for label in net[1]:
        sight = (firsts[label], [groups_by_class(net, (road, label), firsts) for road in range(len(net[0]))])
        alike = [other for other, known in seen if known == sight]
        seen.append((label, sight))
        found[label] = alike[0] if alike else label
    return found


def groups_by_class(net, head, firsts):
    """The GROUPS of a head with each label replaced by the first one of its class; if it has no row, no group."""
    groups = groups_at(net, head)
    if groups == "home":
        return groups
    return tuple([group_by_class(group, firsts) for group in groups])


def group_by_class(group, firsts):
    """The choices of a group with each label replaced by the first one of its class, ascending, each once."""
    return tuple(sorted(set([(out, word_by_class(word, firsts)) for out, word in group])))


def word_by_class(word, firsts):
    return tuple([firsts[label] for label in word])


def merged(net):
    """The net in which the first label of each class stands for all of it."""
    need_net(net)
    firsts = first_twins(net)
    labels = first_ones(net, firsts)
    rows = [(head, groups_by_class(net, head, firsts)) for head, groups in net[2] if head[1] in ("", *labels)]
    return (net[0], labels, tuple(rows))


def merged_parcel(net, parcel):
    """The parcel with each label replaced by the first one of its class."""
    need_net(net)
    need_parcel(net, parcel)
    return (parcel[0], word_by_class(parcel[1], first_twins(net)))
