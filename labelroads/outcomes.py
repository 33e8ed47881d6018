"""What can become of a parcel."""

from labelroads.ever import rings
from labelroads.nets import all_heads, choices_by_head, known_fate, need_failed, need_net
from labelroads.parcels import need_parcel
from labelroads.tops import heads_in, heads_on, linked_heads, pop_table


def outcome_at(net, failed, on_rings, head):
    """The outcome that a head itself tells, or None if it only leads on to others."""
    if head in on_rings:
        return ("ever",)
    fate = known_fate(net, failed, head)
    if fate == "home":
        return ("home", net[0][head[0]][1])
    return ("lost",) if fate == "lost" else None


def outcomes_at_heads(net, failed, linked):
    """A dict from all heads, ascending, to the outcomes that they themselves tell, or None."""
    on_rings = rings(linked)
    return {head: outcome_at(net, failed, on_rings, head) for head in all_heads(net)}


def outcomes_by_head(net, failed):
    """A pair of the table of all pops and a dict from all heads to the outcomes that come from there by links.

    These are the outcomes of what happens as long as the label of the head, or what is laid for it, is there.
    """
    free = choices_by_head(net, failed)
    table = pop_table(free)
    linked = linked_heads(table, free)
    own = outcomes_at_heads(net, failed, linked)
    return table, {head: without_none([own[other] for other in heads_on(linked, [head])]) for head in own}


def without_none(told):
    """Outcomes ascending, each once, and None left out."""
    return tuple(sorted(set([outcome for outcome in told if outcome is not None])))


def outcomes_of(net, failed, parcels):
    """A dict from some parcels to their outcomes, of arguments that are known to be valid."""
    table, by_head = outcomes_by_head(net, failed)
    return {parcel: outcomes_in(table, by_head, parcel) for parcel in parcels}


def outcomes_in(table, by_head, parcel):
    """The outcomes of a parcel, by what outcomes_by_head tells."""
    heads = {head: True for head, place, steps in heads_in(table, parcel)}
    return without_none([outcome for head in heads for outcome in by_head[head]])


def outcomes(net, failed, parcel):
    """The outcomes of a parcel, ascending."""
    need_net(net)
    need_failed(net, failed)
    need_parcel(net, parcel)
    return known_outcomes(net, failed, parcel)


def known_outcomes(net, failed, parcel):
    """As outcomes, of arguments that are known to be valid."""
    return outcomes_of(net, failed, (parcel,))[parcel]
