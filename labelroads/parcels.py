"""Parcels on a net: their heads, and the steps that they can take."""

from labelroads.errors import BadChoices, BadParcel
from labelroads.forms import is_choice, is_labels, is_pair, is_road
from labelroads.nets import free_choices, need_failed, need_net

MOST_STACK = 3000


def is_parcel_of(net, value):
    """Whether any value is a parcel, of a net that is known to be one."""
    return is_pair(value) and is_road(net[0], value[0]) and is_labels(net[1], value[1], MOST_STACK)


def is_parcel(net, value):
    """Whether any value is a parcel of the net."""
    need_net(net)
    return is_parcel_of(net, value)


def need_parcel(net, parcel):
    """BadParcel if this is no parcel of the net."""
    if not is_parcel_of(net, parcel):
        raise BadParcel(parcel)


def head_at(road, stack):
    """The head of a parcel, known to be one, on a road with a stack."""
    return (road, stack[0] if stack else "")


def head_of(net, parcel):
    """The head of a parcel."""
    need_net(net)
    need_parcel(net, parcel)
    return head_at(parcel[0], parcel[1])


def steps(net, failed, parcel):
    """Pairs of each choice that can be taken and the parcel behind it, ascending."""
    need_net(net)
    need_failed(net, failed)
    need_parcel(net, parcel)
    road, stack = parcel
    rest = stack[1:]
    return tuple([((out, word), (out, word + rest)) for out, word in free_choices(net, failed, head_at(road, stack))])


def walked(net, failed, parcel, taken):
    """The parcel behind choices that are taken one after another; BadChoices with the first that cannot be."""
    need_net(net)
    need_failed(net, failed)
    need_parcel(net, parcel)
    if not isinstance(taken, tuple):
        raise BadChoices(None)
    return walk(net, failed, parcel, taken)


def walk(net, failed, parcel, taken, least=0):
    """As walked, of a parcel that is known to be one but for its height, and any tuple of values.

    Nor can a choice be taken behind which the stack has fewer labels than least.
    """
    road = parcel[0]
    # The top label stands last here: a step then costs no copy of the stack, however high it is.
    pile = list(parcel[1][::-1])
    for place, choice in enumerate(taken):
        top = pile.pop() if pile else ""
        if not is_choice(net[0], net[1], road, choice) or choice not in free_choices(net, failed, (road, top)):
            raise BadChoices(place)
        road = choice[0]
        pile.extend(choice[1][::-1])
        if len(pile) < least:
            raise BadChoices(place)
    return (road, tuple(pile[::-1]))
