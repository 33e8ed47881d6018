"""Nets that are alike: each parcel has the same outcomes by both.

A stack is read from the top on, for one outcome alone. What has been read leaves a net in a *standing*: CAME if the
outcome comes from the labels that have been read, whatever is below them; else the roads to which they are popped off.
A reader, by which a net is read, is a pair of dicts: from heads to the roads to which their label is popped off, and
from the heads from which the outcome comes to True. The standings of both nets stand side by side in a pair.
"""

from labelroads.errors import OtherNet, TooGreat
from labelroads.nets import failed_sets, need_most, need_net
from labelroads.outcomes import outcomes_by_head

MOST_STANDINGS = 3000
CAME = "came"


def need_nets(one, other):
    """The error of the first of these that is no net, or OtherNet if they have other roads or labels."""
    need_net(one)
    need_net(other)
    if one[:2] != other[:2]:
        raise OtherNet()


def alike(one, other, most):
    """Whether two nets are alike for a number of roads that may fail."""
    return parted(one, other, most) is None


def parted(one, other, most):
    """A parting with the first set of failed roads with which there is one, the stack as short as can be, or None."""
    need_nets(one, other)
    need_most(most)
    return known_parted(one, other, most)


def known_parted(one, other, most):
    """As parted, of arguments that are known to be valid."""
    for failed in failed_sets(one, most):
        found = shortest_parting(one, reader_pairs(one, other, failed))
        if found is not None:
            return (failed, *found)
    return None


def reader_pairs(one, other, failed):
    """A dict from the outcomes by which the nets may part to pairs of readers."""
    table, by_head = outcomes_by_head(one, failed)
    other_table, other_by_head = outcomes_by_head(other, failed)
    told = [outcome for row in (by_head, other_by_head) for head in row for outcome in row[head]]
    found = {}
    for outcome in sorted(set(told)):
        readers = (reader_of(table, by_head, outcome), reader_of(other_table, other_by_head, outcome))
        # Readers that are equal read each stack alike: no standing has to be looked at.
        if readers[0] != readers[1]:
            found[outcome] = readers
    return found


def reader_of(table, by_head, outcome):
    """The reader for an outcome, by what outcomes_by_head tells."""
    popped = {head: sorted(list(table.get(head, {}))) for head in by_head}
    return popped, {head: True for head in by_head if outcome in by_head[head]}


def standing_behind(reader, standing, label):
    """The standing behind one more label."""
    popped, coming = reader
    if standing == CAME or any([(road, label) in coming for road in standing]):
        return CAME
    return tuple(sorted(set([other for road in standing for other in popped[(road, label)]])))


def comes_at_end(reader, standing):
    """Whether the outcome comes if no label is below those that have been read."""
    return standing == CAME or any([(road, "") in reader[1] for road in standing])


def pair_behind(readers, pair, label):
    """The standings of both nets behind one more label."""
    return tuple([standing_behind(reader, standing, label) for reader, standing in zip(readers, pair)])


def is_settled(pair):
    """Whether the outcome comes by both nets, or by none, whatever is below."""
    return pair in ((CAME, CAME), ((), ()))


def is_parted(readers, pair):
    """Whether the outcome comes by just one of both nets if no label is below."""
    return comes_at_end(readers[0], pair[0]) != comes_at_end(readers[1], pair[1])


def shortest_parting(net, readers):
    """A pair of a parcel, its stack as short as can be, and an outcome by which nets part, or None.

    TooGreat if too many standings have to be looked at.
    """
    waiting = [(outcome, ((road,), (road,)), (road, ())) for outcome in readers for road in range(len(net[0]))]
    seen = {(outcome, pair): True for outcome, pair, parcel in waiting}
    looked = 0
    while waiting:
        outcome, pair, parcel = waiting.pop(0)
        looked += 1
        if looked > MOST_STANDINGS:
            raise TooGreat(MOST_STANDINGS)
        if is_parted(readers[outcome], pair):
            return parcel, outcome
        for label in net[1]:
            behind = pair_behind(readers[outcome], pair, label)
            if (outcome, behind) not in seen and not is_settled(behind):
                seen[(outcome, behind)] = True
                waiting.append((outcome, behind, (parcel[0], (*parcel[1], label))))
    return None
