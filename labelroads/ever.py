"""What can go on for ever, and papers that show it.

A way to a head is a pair: its steps, and its *legs*. A leg is a tuple of choices that are taken first (none or one),
a road, labels that are popped off from there then, and the road to which they are popped off.
"""

from labelroads.edges import edges_of, is_saturated, lightest_path, table_of, unfolded
from labelroads.errors import BadChoices, BadPaper, TooGreat
from labelroads.forms import is_pops, is_ranks, is_tuple
from labelroads.machines import accepts_some, least_table
from labelroads.nets import choices_by_head, failed_sets, need_failed, need_most, need_net, need_road
from labelroads.parcels import head_at, need_parcel, walk
from labelroads.shapes import need_shape
from labelroads.tops import coming_heads, heads_behind, heads_in, heads_on, linked_heads, pop_table
from labelroads.weights import MOST_STEPS


def rings(linked):
    """The heads on rings, ascending."""
    return tuple(sorted([head for head in linked if head in heads_on(linked, linked[head])]))


def known_ring_heads(net, failed):
    """As ring_heads, of arguments that are known to be valid."""
    free = choices_by_head(net, failed)
    return rings(linked_heads(pop_table(free), free))


def ring_heads(net, failed):
    """The heads on rings, ascending."""
    need_net(net)
    need_failed(net, failed)
    return known_ring_heads(net, failed)


def for_ever(net, failed, parcel):
    """Whether a parcel can go on for ever."""
    need_net(net)
    need_failed(net, failed)
    need_parcel(net, parcel)
    free = choices_by_head(net, failed)
    table = pop_table(free)
    linked = linked_heads(table, free)
    on_rings = rings(linked)
    return any([head in on_rings for head in coming_heads(table, linked, parcel)])


def first_for_ever(net, most, road, shape):
    """The first set of failed roads with which some parcel on a road with a stack of a shape can go on for ever."""
    need_net(net)
    need_most(most)
    need_road(net, road)
    need_shape(net, shape)
    for failed in failed_sets(net, most):
        goal = ("heads", known_ring_heads(net, failed))
        if accepts_some(net, road, shape, least_table(net, failed, goal)):
            return failed
    return None


def ever_paper(net, failed, parcel):
    """A paper on for ever; TooGreat if it would have more than 2,000 choices."""
    need_net(net)
    need_failed(net, failed)
    need_parcel(net, parcel)
    free = choices_by_head(net, failed)
    table = pop_table(free)
    found = way_and_ring(table, free, parcel)
    if found is None:
        return ends_paper(table, free, parcel)
    way, ring = found
    if way[0] + ring[0] > MOST_STEPS:
        raise TooGreat(MOST_STEPS)
    return ("ever", taken_by(table, free, way), taken_by(table, free, ring))


def way_and_ring(table, free, parcel):
    """A way to a head and one from it back to it, as light as can be together, or None."""
    legs = legs_by_head(table, free)
    ways = follow(legs, first_ways(table, parcel))
    found = []
    for head in ways:
        ring = follow(legs, ways_of_one_leg(legs[head])).get(head)
        if ring is not None:
            found.append((ways[head], ring))
    return min(found, key=lambda pair: pair[0][0] + pair[1][0], default=None)


def first_ways(table, parcel):
    """A dict from the heads that come from a parcel without links to the lightest ways to them."""
    ways = {}
    road, stack = parcel
    for head, place, steps in heads_in(table, parcel):
        if head not in ways or steps < ways[head][0]:
            ways[head] = (steps, (((), road, stack[:place], head[0]),))
    return ways


def legs_by_head(table, free):
    """A dict from heads to triples for each link: the other head, the steps of the leg to it, and the leg."""
    found = {head: [] for head in free}
    for head in free:
        for choice in free[head]:
            out, word = choice
            for other, place, steps in heads_behind(table, head, choice):
                found[head].append((other, steps + 1, ((choice,), out, word[:place], other[0])))
    return found


def keep_lighter(ways, head, way):
    """Keeps a way to a head if no other one is as light; whether it did."""
    if head in ways and ways[head][0] <= way[0]:
        return False
    ways[head] = way
    return True


def ways_of_one_leg(legs):
    """A dict from heads to the lightest ways to them of one of the legs."""
    ways = {}
    for other, steps, leg in legs:
        keep_lighter(ways, other, (steps, (leg,)))
    return ways


def follow(legs, starts):
    """A dict from heads to the lightest ways to them that begin with one of the ways of starts."""
    ways = {head: starts[head] for head in starts}
    waiting = list(starts)
    while waiting:
        head = waiting.pop(0)
        steps, way = ways[head]
        for other, more, leg in legs[head]:
            if keep_lighter(ways, other, (steps + more, (*way, leg))):
                waiting.append(other)
    return ways


def taken_by(table, free, way):
    """The choices of a way."""
    found = []
    for taken, road, labels, end in way[1]:
        found.extend(taken)
        found.extend(unfolded(table, free, lightest_path(table, road, labels, end)))
    return tuple(found)


def ends_paper(table, free, parcel):
    """The paper on a parcel that cannot go on for ever."""
    linked = linked_heads(table, free)
    heads = coming_heads(table, linked, parcel)
    ranks = ranks_of(linked, heads)
    return ("ends", edges_of(table), tuple([(head, ranks[head]) for head in heads]))


def ranks_of(linked, heads):
    """A dict from heads, of which none is on a ring, to the greatest number of links that can lead on from them."""
    ranks = {head: 0 for head in heads}
    changed = True
    while changed:
        changed = False
        for head in heads:
            rank = max([ranks[other] + 1 for other in linked.get(head, ())], default=0)
            if rank > ranks[head]:
                ranks[head] = rank
                changed = True
    return ranks


def check_ever(net, failed, parcel, paper):
    """The word of a paper on for ever; BadPaper for any value that is none."""
    need_net(net)
    need_failed(net, failed)
    need_parcel(net, parcel)
    word = word_of_ever(paper)
    if word == "ever" and not goes_on(net, failed, parcel, paper[1], paper[2]):
        raise BadPaper("ever")
    if word == "ends" and not ends(net, failed, parcel, paper[1], paper[2]):
        raise BadPaper("ends")
    return word


def word_of_ever(value):
    """The word of any value that has the form of a paper on for ever."""
    if is_tuple(value, 3, 3) and isinstance(value[1], tuple) and isinstance(value[2], tuple):
        if isinstance(value[0], str) and value[0] in ("ever", "ends"):
            return value[0]
    raise BadPaper("form")


def goes_on(net, failed, parcel, taken, ring):
    """Whether choices lead from a parcel to a ring of choices."""
    try:
        road, stack = walk(net, failed, parcel, taken)
        start = (road, stack[:1])
        end = walk(net, failed, start, ring, len(stack[:1]))
    except BadChoices:
        return False
    return len(ring) > 0 and head_at(end[0], end[1]) == head_at(road, stack)


def ends(net, failed, parcel, triples, ranks):
    """Whether triples in the place of the pops and ranks show that a parcel cannot go on for ever."""
    if not is_pops(net[0], net[1], triples) or not is_ranks(net[0], net[1], ranks):
        return False
    free = choices_by_head(net, failed)
    table = table_of(triples)
    rank_of = {head: rank for head, rank in ranks}
    if not is_saturated(table, free) or not all([head in rank_of for head, place, steps in heads_in(table, parcel)]):
        return False
    return all_ranks_fall(linked_heads(table, free), rank_of)


def all_ranks_fall(linked, ranks):
    """Whether each head with a rank has links to heads with lesser ranks alone."""
    for head in ranks:
        for other in linked.get(head, ()):
            if other not in ranks or ranks[other] >= ranks[head]:
                return False
    return True
