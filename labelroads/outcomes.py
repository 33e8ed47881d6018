"""What can become of a parcel."""

from labelroads.ever import heads_and_rings
from labelroads.nets import known_fate, need_failed, need_net
from labelroads.parcels import need_parcel


def outcomes(net, failed, parcel):
    """The outcomes of a parcel, ascending."""
    need_net(net)
    need_failed(net, failed)
    need_parcel(net, parcel)
    heads, on_rings = heads_and_rings(net, failed, parcel)
    found = []
    for head in heads:
        if head in on_rings:
            found.append(("ever",))
        fate = known_fate(net, failed, head)
        if fate == "home":
            found.append(("home", net[0][head[0]][1]))
        if fate == "lost":
            found.append(("lost",))
    return tuple(sorted(set(found)))
