"""Nets and wrong values for the tests."""

import random


class Agreeing:
    """Says that it equals, contains and orders with everything."""

    def __eq__(self, other):
        return True

    def __ne__(self, other):
        return False

    def __lt__(self, other):
        return True

    __le__ = __gt__ = __ge__ = __lt__

    def __hash__(self):
        return hash("home")

    def __len__(self):
        return 3

    def __iter__(self):
        return iter((0, 1, 2))

    def __getitem__(self, at):
        return 0

    def __contains__(self, value):
        return True


class Breaking:
    """Fails whatever is done with it."""

    def fail(self, *told):
        raise RuntimeError("touched")

    __eq__ = __ne__ = __lt__ = __le__ = __gt__ = __ge__ = __hash__ = fail
    __len__ = __iter__ = __getitem__ = __contains__ = __bool__ = __repr__ = __str__ = __index__ = fail


def nested(depth):
    value = ()
    for level in range(depth):
        value = (value,)
    return value


# None of these can stand anywhere in a net, nor as any argument that is refused.
WRONG = (
    None,
    True,
    False,
    -1,
    10**999,
    -(10**999),
    "Any",
    " ",
    "\n",
    "a b",
    "~",
    b"",
    b"a",
    b"home",
    [],
    [0],
    [0, 1],
    ["a"],
    [(0, 1)],
    {},
    {0: 1},
    {"a": "b"},
    set(),
    {0, 1},
    frozenset(),
    (None,),
    (True,),
    (None, None),
    (True, ()),
    ([0], ["a"]),
    ((), ()),
    (b"a", b"b", b"c", b"d"),
    nested(50),
    Agreeing(),
    Breaking(),
    (Agreeing(),),
    (Agreeing(), Agreeing()),
    (Breaking(), Breaking()),
    object(),
    int,
    len,
)

# 0 goes 0 -> 1, 1 stays at 1, 2 goes 1 -> 0, 3 goes 1 -> 2.
ROADS = ((0, 1), (1, 1), (1, 0), (1, 2))
LABELS = ("b", "a")
ROWS = (
    ((0, ""), (((3, ("a", "b", "a")), (1, ())), ((2, ("b",)),))),
    ((0, "a"), (((3, ()), (1, ("b",)), (1, ("a", "a"))), ((2, ()),), ((2, ("a",)), (1, ())))),
    ((0, "b"), "home"),
    ((1, "a"), (((1, ()),),)),
    ((1, "b"), (((3, ("b",)),), ((3, ()),))),
    ((2, "a"), (((0, ("b", "a")),),)),
    ((3, ""), "home"),
)
NET = (ROADS, LABELS, ROWS)

SMALL = (((0, 0),), ("a",), ())


def all_heads(net):
    """The heads by their definition: roads, each with the empty string and all labels."""
    return sorted((road, top) for road in range(len(net[0])) for top in ("", *net[1]))


def some_net(seed):
    """A net, another one for each seed."""
    chance = random.Random(seed)
    houses = chance.randint(1, 8)
    roads = tuple((chance.randrange(houses), chance.randrange(houses)) for road in range(chance.randint(1, 10)))
    labels = tuple(chance.sample(("a", "b", "hall", "zzzzzzzz", "home", "anyone"), chance.randint(1, 4)))
    rows = []
    for head in all_heads((roads, labels)):
        groups = some_groups(chance, roads, labels, head[0])
        if groups and chance.random() < 0.8:
            rows.append((head, groups))
    return (roads, labels, tuple(rows))


def some_groups(chance, roads, labels, road):
    outs = [out for out, way in enumerate(roads) if way[0] == roads[road][1]]
    if not outs or chance.random() < 0.2:
        return "home"
    groups = []
    for group in range(chance.randint(1, 3)):
        wanted = [(chance.choice(outs), some_word(chance, labels, 3)) for choice in range(chance.randint(1, 3))]
        groups.append(tuple(dict.fromkeys(wanted)))
    return tuple(groups)


def some_word(chance, labels, most):
    return tuple(chance.choice(labels) for place in range(chance.randint(0, most)))


def some_failed(chance, net):
    roads = range(len(net[0]))
    return tuple(sorted(chance.sample(roads, chance.randint(0, len(roads)))))


def places(value, path=()):
    """The paths to the value and to all that is nested in its tuples."""
    found = [path]
    if isinstance(value, tuple):
        for number, item in enumerate(value):
            found.extend(places(item, (*path, number)))
    return found


def put_at(value, path, new):
    """The nested tuple with another value at a path."""
    if not path:
        return new
    items = list(value)
    items[path[0]] = put_at(items[path[0]], path[1:], new)
    return tuple(items)


def fault_place(path, wrong):
    """The place that BadNet tells if a value of WRONG stands at this path of NET."""
    if not path:
        return ()
    part = ("roads", "labels", "rows")[path[0]]
    if len(path) == 1:
        return (part, 0) if isinstance(wrong, tuple) else (part,)
    return (part, path[1])


def told_by(case, error, call, *values, **named):
    """The error, of just this class, that a call raises."""
    with case.assertRaises(error) as caught:
        call(*values, **named)
    case.assertEqual(caught.exception.__class__, error)
    return caught.exception


# Values that are nothing of NET; behind each the functions of the tests for refusals put these into each place.
NO_FAILED = (*WRONG, (4,), (-1,), (0, 0), (1, 0), (0, 2, 1), (0, 1, 2, 3, 4), ("0",), [0], (0, True), (False,), 0, "")
NO_NUMBERS = (*WRONG, 3, "0", "", (), (1,), 10)
NO_ROADS = (*WRONG, 4, 5, 7, 8, "0", "", (), (0,), ((0, 1)), "a")
NO_PARCELS = (
    *WRONG, (), (0,), (0, (), ()), (4, ()), (-1, ()), (True, ()), (False, ("a",)), ("0", ()), [0, ()], (0, []),
    (0, ["a"]), (0, "a"), (0, ""), (0, b"a"), (0, None), (0, 1), (0, ("c",)), (0, ("a", "")), (0, ("any",)),
    (0, ("all",)), (0, ("a", None)), (0, ("a", b"a")), (0, (("a",),)), (0, {"a": 1}), 0, "0 a", (0, ("a",) * 3001),
    (None, ("a",)), (10**999, ()), (0, ("A",)),
)
NO_SHAPES = (
    *WRONG, ["a"], "a", "all", "", ("c",), ("",), ("Any",), ("ALL",), (0,),
    ("a", 0), ("a", None), ("a", ("a",)), (b"all",), (b"a",), (("all",),), {"a": 1}, {"all"}, ("any all",), ("a", "-"),
    ("all",) * 7, ("a",) * 7, ("a", "b", "any", "all", "a", "c"), 0, 1,
)
NO_GOALS = (
    *WRONG, (), "lost", "home", ("lose",), ("",), (b"lost",), ("LOST",), ["lost"], ("lost", 0), ("lost", ()),
    ("lost", None), ("home", 8), ("home", -1), ("home", True), ("home", "0"), ("home", None), ("home", ()),
    ("home", 0, 0), ("house",), ("house", 8), ("house", False), ("house", (0,)), ("house", 0, ()), ("heads",),
    ("heads", []), ("heads", None), ("heads", 0), ("heads", "", ""), ("heads", ((0, "a"), (0, "a"))),
    ("heads", ((0, "b"), (0, "a"))), ("heads", ((4, ""),)), ("heads", ((0, "c"),)), ("heads", ([0, "a"],)),
    ("heads", (0, "a")), ("heads", ((0, "a"), None)), ("heads", ((True, "a"),)), ("heads", ((0, "any"),)),
    ("heads", {(0, "a")}), ("at",), ("at", 0), ("at", 4, ()), ("at", True, ()), ("at", 0, []), ("at", 0, ("c",)),
    ("at", 0, ("all",) * 7), ("at", 0, (), ()), ("at", (), 0), ("at", "0", ()), ("goes",), ("ever",), ("any",),
    (("lost",),), (Agreeing(), 0), ("home", Agreeing()), ("home", Breaking()), ("heads", (Agreeing(),)),
    ("house", 0, 0, 0), ("home", 0, (), ()), ("heads", (), (), ()), ("lost", 0, 0, 0),
    ("heads", ((0, Agreeing()),)), ("at", Breaking(), ()), ("at", 0, (Agreeing(),)), ("at", 0, Breaking()),
)
NO_HOUSES = (*WRONG, 8, 9, "0", "", (), (0,), (1,))
NO_HEADS = (
    *WRONG, (), (0,), 0, "", "a", "-", (0, "", ""), (4, ""), (-1, "a"), (True, "a"), (False, ""), ("0", "a"), [0, "a"],
    (0, "c"), (0, "any"), (0, "all"), (0, "-"), (0, None), (0, 0), (0, ("a",)), (0, ()), (0, b"a"), (0, b""),
    (0, Agreeing()), (Agreeing(), "a"), (0, Breaking()), ("a", 0), "0a", (10**999, ""),
)
NO_ENTRIES = (
    *WRONG, (), ((0, ()),) * 7, [(0, ())], {(0, ())}, "", 0, ((0,),), ((0, (), ()),), ((4, ()),), ((True, ()),),
    ((0, []),), ((0, "a"),), ((0, ("c",)),), ((0, ("all",) * 7),), ((0, None),), ((None, ()),), ([0, ()],), (0, ()),
    ((0, Breaking()),), (Breaking(),), ((0, (Agreeing(),)),), (((0, ()),),), (0, ("a",)),
)
# One of each of the six kinds at the least, of NET.
GOALS = (
    ("lost",), ("home",), ("home", 1), ("home", 2), ("home", 7), ("house", 0), ("house", 2), ("heads", ()),
    ("heads", ((0, ""),)), ("heads", ((1, "b"), (3, ""), (3, "b"))), ("at", 3, ()), ("at", 1, ("b", "all")),
    ("at", 0, ("all", "a", "all", "any", "b")), ("at", 2, ("all",) * 6),
)


def some_shape(chance, labels, most=6):
    return tuple(chance.choice(("any", "all", "all", *labels)) for place in range(chance.randint(0, most)))


def some_stack(chance, labels, shape):
    """A stack of a shape."""
    found = []
    for item in shape:
        if item == "all":
            found.extend(some_word(chance, labels, 2))
        else:
            found.append(chance.choice(labels) if item == "any" else item)
    return tuple(found)


def some_goal(chance, net):
    """A goal, of any kind, and of such as come not too soon."""
    house = chance.choice(net[0])[1]
    some_heads = tuple(sorted(chance.sample(all_heads(net), chance.randint(0, 2))))
    at = ("at", chance.randrange(len(net[0])), some_shape(chance, net[1]))
    return chance.choice((("lost",), ("home",), ("home", house), ("house", house), ("heads", some_heads), at))


def little_net(seed, most_word=3, chances=0.5):
    """A net of few roads between few houses, such that parcels go on for long, another one for each seed.

    No choice lays more than most_word labels; chances tell how often a head has no row.
    """
    chance = random.Random(seed)
    houses = chance.randint(1, 2)
    roads = tuple((chance.randrange(houses), chance.randrange(houses)) for road in range(chance.randint(1, 4)))
    labels = ("b", "a", "c")[: chance.randint(1, 2)]
    rows = []
    for head in all_heads((roads, labels)):
        outs = [out for out, way in enumerate(roads) if way[0] == roads[head[0]][1]]
        if chance.random() < chances or not outs:
            continue
        groups = []
        for group in range(chance.randint(1, 2)):
            many = chance.randint(1, 2)
            wanted = [(chance.choice(outs), some_word(chance, labels, most_word)) for choice in range(many)]
            groups.append(tuple(dict.fromkeys(wanted)))
        rows.append((head, "home" if chance.random() < 0.1 else tuple(groups)))
    return (roads, labels, tuple(rows))


def changed_net(seed, most_word=2):
    """A pair of nets of which one or two rows differ, another one for each seed."""
    chance = random.Random(seed)
    net = little_net(seed, most_word, 0.3)
    rows = dict(net[2])
    for turn in range(chance.randint(1, 2)):
        head = chance.choice(all_heads(net))
        outs = [out for out, way in enumerate(net[0]) if way[0] == net[0][head[0]][1]]
        if not outs or chance.random() < 0.2:
            rows.pop(head, None)
        else:
            rows[head] = "home" if chance.random() < 0.2 else (((chance.choice(outs), some_word(chance, net[1], 2)),),)
    return net, (net[0], net[1], tuple(sorted(rows.items())))


def window_net(label):
    """A net that keeps in mind which of the last eight labels were this one: its ninth road is home, without labels.

    On the last road all labels are lost, and so is what is left on the first one.
    """
    rows = []
    for road in range(9):
        for top in ("a", "b", "c"):
            behind = ((0, ()), (1, ())) if road == 0 and top == label else ((road + 1 if road else 0, ()),)
            rows.append(((road, top), (behind,)))
    rows.append(((8, ""), "home"))
    return (((0, 0),) * 10, ("a", "b", "c"), tuple(sorted(rows)))


def clock_net(more):
    """A net in which, on the last road, b starts a clock of four hours and one of five; each a lets them go on.

    Without labels they are home unless it is their last hour; b is lost, too. What is started besides is told.
    """
    rows = []
    for first, hours in ((0, 4), (4, 5)):
        for hour in range(hours):
            rows.append(((first + hour, "a"), (((first + (hour + 1) % hours, ()),),)))
            if hour < hours - 1:
                rows.append(((first + hour, ""), "home"))
    rows.append(((9, "b"), (((9, ("c",)), (9, ("d",)), *((road, ()) for road in more)),)))
    rows.append(((9, "c"), (((0, ()), (4, ())),)))
    return (((0, 0),) * 10, ("a", "b", "c", "d"), tuple(sorted(rows, key=lambda row: row[0])))


def flat_net(seed):
    """A net in which no stack grows above one label: all that comes from a parcel can be looked at."""
    return little_net(seed, 1, 0.3)


def doubling_net(number):
    """A net in which the parcel (0, ("a",)) needs just so many steps, of which none can be chosen, to get to (0, ()).

    Popping the label off from one road takes twice as many steps as from the next one, and two or three besides.
    """
    rows = []
    road = 0
    while number > 3:
        rows.append(((road, "a"), (((road + 1, ("a", "a", "b")),),)))
        if number % 2:
            rows.append(((road + 1, "b"), (((road + 1, ("c",)),),)))
        rows.append(((road + 1, "c" if number % 2 else "b"), (((road, ()),),)))
        number = (number - 2) // 2
        road += 1
    rows.append(((road, "a"), (((road, ("d",) * (number - 1)),),)))
    rows.append(((road, "d"), (((road, ()),),)))
    return (((0, 0),) * (road + 1), ("a", "b", "c", "d"), tuple(sorted(rows)))


def ring_net(number):
    """A net in which the parcel (0, ()) needs just so many steps to get back to (0, ()), and has nothing else to do."""
    roads, labels, rows = doubling_net(number - 1)
    return (roads, labels, (((0, ""), (((0, ("a",)),),)), *rows))


def ninefold_net(roads):
    """A net in which labels are laid threefold, twice for each road: steps_of_ninefold tells how long that takes."""
    rows = []
    for road in range(roads - 1):
        rows.append(((road, "a"), (((road, ("b", "b", "b")),),)))
        rows.append(((road, "b"), (((road + 1, ("a", "a", "c")),),)))
        rows.append(((road + 1, "c"), (((road + 1, ("a", "d")),),)))
        rows.append(((road + 1, "d"), (((road, ()),),)))
    rows.append(((roads - 1, "a"), (((roads - 1, ()),),)))
    return (((0, 0),) * roads, ("a", "b", "c", "d"), tuple(sorted(rows)))


def steps_of_ninefold(roads):
    """How many steps the parcel (0, ("a",)) needs to get to (0, ()) in such a net."""
    number = 1
    for road in range(roads - 1):
        number = 1 + 3 * (3 + 3 * number)
    return number


def winding_net(seed):
    """A net in which ways are long: few choices, of which as many lay labels as take them off."""
    chance = random.Random(seed)
    roads = ((0, 0),) * chance.randint(2, 4)
    labels = ("b", "a", "c")[: chance.randint(2, 3)]
    rows = []
    for head in all_heads((roads, labels)):
        if head[1] == "" and chance.random() < 0.6 or chance.random() < 0.15:
            continue
        wanted = []
        for choice in range(chance.choice((1, 1, 1, 2))):
            word = tuple(chance.choice(labels) for place in range(chance.choice((0, 0, 0, 1, 1, 2, 2, 3))))
            wanted.append((chance.randrange(len(roads)), word))
        rows.append((head, "home" if chance.random() < 0.03 else (tuple(dict.fromkeys(wanted)),)))
    return (roads, labels, tuple(rows))


def twin_net(seed):
    """A net in which labels are made from fewer ones: many of them are twins. Another one for each seed."""
    chance = random.Random(seed)
    net = (little_net, flat_net, some_net)[seed % 3](seed)
    labels = ("d", "c", "b", "a")[: chance.randint(2, 4)]
    stands_for = {label: chance.choice(net[1]) for label in labels}
    named = {label: [one for one in labels if stands_for[one] == label] for label in net[1]}
    rows = {}
    for road, top in all_heads((net[0], labels)):
        groups = dict(net[2]).get((road, stands_for.get(top, "")))
        if groups is not None:
            rows[(road, top)] = groups if groups == "home" else renamed(chance, groups, named)
    if rows and chance.random() < 0.3:
        rows.pop(chance.choice(list(rows)))
    return (net[0], labels, tuple(sorted(rows.items(), key=lambda row: row[0])))


def renamed(chance, groups, named):
    """The groups with other names of their labels, and their choices in another order."""
    found = []
    for group in groups:
        wanted = [(out, tuple(chance.choice(named[one] or ["d"]) for one in word)) for out, word in group]
        chance.shuffle(wanted)
        found.append(tuple(dict.fromkeys(wanted)))
    return tuple(found)
