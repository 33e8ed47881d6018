"""Shapes of stacks: which stacks have a shape, and how labels lead through its items."""

from labelroads.errors import BadShape
from labelroads.forms import is_labels, is_shape
from labelroads.nets import need_net
from labelroads.parcels import MOST_STACK


def need_shape(net, shape):
    """BadShape if this is no shape of the net."""
    if not is_shape(net[1], shape):
        raise BadShape(shape)


def leads(shape, done, label):
    """The numbers of items to which a label leads after so many items are done, ascending."""
    found = []
    for place in range(done, len(shape)):
        if shape[place] != "all":
            if shape[place] in ("any", label):
                found.append(place + 1)
            break
        found.append(place)
    return tuple(found)


def may_end(shape, done):
    """Whether a stack may end after so many items."""
    return all([item == "all" for item in shape[done:]])


def has_shape(shape, stack):
    """Whether a tuple of labels, of any height, has a shape."""
    ways = (0,)
    for label in stack:
        ways = sorted({place for done in ways for place in leads(shape, done, label)})
    return any([may_end(shape, done) for done in ways])


def fits(net, shape, stack):
    """Whether any value is a stack of the net, of at most 3,000 labels, that has the shape."""
    need_net(net)
    need_shape(net, shape)
    return is_labels(net[1], stack, MOST_STACK) and has_shape(shape, stack)
