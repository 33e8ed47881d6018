"""Nets and wrong values for the tests."""

import random


class Agreeing:
    """Says that it equals, contains and orders with everything."""

    def __eq__(self, other):
        return True

    def __ne__(self, other):
        return False

    def __lt__(self, other):
        return True

    __le__ = __gt__ = __ge__ = __lt__

    def __hash__(self):
        return hash("home")

    def __len__(self):
        return 3

    def __iter__(self):
        return iter((0, 1, 2))

    def __getitem__(self, at):
        return 0

    def __contains__(self, value):
        return True


class Breaking:
    """Fails whatever is done with it."""

    def fail(self, *told):
        raise RuntimeError("touched")

    __eq__ = __ne__ = __lt__ = __le__ = __gt__ = __ge__ = __hash__ = fail
    __len__ = __iter__ = __getitem__ = __contains__ = __bool__ = __repr__ = __str__ = __index__ = fail


def nested(depth):
    value = ()
    for level in range(depth):
        value = (value,)
    return value


# None of these can stand anywhere in a net, nor as any argument that is refused.
WRONG = (
    None,
    True,
    False,
    -1,
    10**999,
    -(10**999),
    "Any",
    " ",
    "\n",
    "a b",
    "~",
    b"",
    b"a",
    b"home",
    [],
    [0],
    [0, 1],
    ["a"],
    [(0, 1)],
    {},
    {0: 1},
    {"a": "b"},
    set(),
    {0, 1},
    frozenset(),
    (None,),
    (True,),
    (None, None),
    (True, ()),
    ([0], ["a"]),
    ((), ()),
    (b"a", b"b", b"c", b"d"),
    nested(50),
    Agreeing(),
    Breaking(),
    (Agreeing(),),
    (Agreeing(), Agreeing()),
    (Breaking(), Breaking()),
    object(),
    int,
    len,
)

# 0 goes 0 -> 1, 1 stays at 1, 2 goes 1 -> 0, 3 goes 1 -> 2.
ROADS = ((0, 1), (1, 1), (1, 0), (1, 2))
LABELS = ("b", "a")
ROWS = (
    ((0, ""), (((3, ("a", "b", "a")), (1, ())), ((2, ("b",)),))),
    ((0, "a"), (((3, ()), (1, ("b",)), (1, ("a", "a"))), ((2, ()),), ((2, ("a",)), (1, ())))),
    ((0, "b"), "home"),
    ((1, "a"), (((1, ()),),)),
    ((1, "b"), (((3, ("b",)),), ((3, ()),))),
    ((2, "a"), (((0, ("b", "a")),),)),
    ((3, ""), "home"),
)
NET = (ROADS, LABELS, ROWS)

SMALL = (((0, 0),), ("a",), ())


def all_heads(net):
    """The heads by their definition: roads, each with the empty string and all labels."""
    return sorted((road, top) for road in range(len(net[0])) for top in ("", *net[1]))


def some_net(seed):
    """A net, another one for each seed."""
    chance = random.Random(seed)
    houses = chance.randint(1, 8)
    roads = tuple((chance.randrange(houses), chance.randrange(houses)) for road in range(chance.randint(1, 10)))
    labels = tuple(chance.sample(("a", "b", "hall", "zzzzzzzz", "home", "anyone"), chance.randint(1, 4)))
    rows = []
    for head in all_heads((roads, labels)):
        groups = some_groups(chance, roads, labels, head[0])
        if groups and chance.random() < 0.8:
            rows.append((head, groups))
    return (roads, labels, tuple(rows))


def some_groups(chance, roads, labels, road):
    outs = [out for out, way in enumerate(roads) if way[0] == roads[road][1]]
    if not outs or chance.random() < 0.2:
        return "home"
    groups = []
    for group in range(chance.randint(1, 3)):
        wanted = [(chance.choice(outs), some_word(chance, labels, 3)) for choice in range(chance.randint(1, 3))]
        groups.append(tuple(dict.fromkeys(wanted)))
    return tuple(groups)


def some_word(chance, labels, most):
    return tuple(chance.choice(labels) for place in range(chance.randint(0, most)))


def some_failed(chance, net):
    roads = range(len(net[0]))
    return tuple(sorted(chance.sample(roads, chance.randint(0, len(roads)))))


def places(value, path=()):
    """The paths to the value and to all that is nested in its tuples."""
    found = [path]
    if isinstance(value, tuple):
        for number, item in enumerate(value):
            found.extend(places(item, (*path, number)))
    return found


def put_at(value, path, new):
    """The nested tuple with another value at a path."""
    if not path:
        return new
    items = list(value)
    items[path[0]] = put_at(items[path[0]], path[1:], new)
    return tuple(items)


def fault_place(path, wrong):
    """The place that BadNet tells if a value of WRONG stands at this path of NET."""
    if not path:
        return ()
    part = ("roads", "labels", "rows")[path[0]]
    if len(path) == 1:
        return (part, 0) if isinstance(wrong, tuple) else (part,)
    return (part, path[1])


def told_by(case, error, call, *values, **named):
    """The error, of just this class, that a call raises."""
    with case.assertRaises(error) as caught:
        call(*values, **named)
    case.assertEqual(caught.exception.__class__, error)
    return caught.exception
