"""A net on which parcels are led, what there is to see of a live net, and one by the words of the promises."""

import unittest

from labelroads.errors import BadChoices, BadFailed, BadHead, BadNumber, NetError, TooGreat
from labelroads.nets import choices, failures, fate
from labelroads.outcomes import outcomes
from labelroads.parcels import head_of, steps
from labelroads.turning import with_row
from tests.samples import all_heads, some_groups, some_word, told_by

LOST, EVER = ("lost",), ("ever",)
# a goes to and fro by 0 and 1 as long as 1 is whole, else home by 2; b is lost, behind 1; c is laid as often as wanted.
EXAMPLE = (((0, 1), (1, 0), (1, 2)), ("a", "b", "c"), (
    ((0, "a"), (((1, ("a",)),), ((2, ()),))),
    ((0, "b"), (((1, ()), (2, ("b",))),)),
    ((0, "c"), (((1, ("c", "c")),),)),
    ((1, "a"), (((0, ("a",)),),)),
    ((1, "c"), (((0, ("c", "c", "c")), (0, ())),)),
    ((2, ""), "home"),
))


def seen(live):
    """All that there is to see of a live net now."""
    numbers = range(len(live))
    return (live.net, live.failed, [live[number] for number in numbers], [live.way(number) for number in numbers])


def story(live):
    """What there is to see from the beginning on up to all that can be done again, and where the live net is in it."""
    other = live.copy()
    back = 0
    while other.undo():
        back += 1
    found = [seen(other)]
    while other.redo():
        found.append(seen(other))
    return back, found


class Plain:
    """A live net by the words of the promises: whatever is done, it keeps all that was, as it was."""

    def __init__(self, net):
        self.now = (net, (), ())
        self.past = []
        self.future = []

    def change(self, net, failed, parcels):
        self.past.append(self.now)
        self.future = []
        self.now = (net, failed, parcels)

    def all_hopes(self):
        net, failed, parcels = self.now
        found = []
        for place, way in parcels:
            if place[0] == "on":
                found.append(outcomes(net, failed, place[1]))
            else:
                found.append((LOST,) if place[0] == "lost" else (place,))
        return found

    def place(self, number):
        parcels = self.now[2]
        if not isinstance(number, int) or isinstance(number, bool) or not 0 <= number < len(parcels):
            raise BadNumber(number)
        return parcels[number][0]

    def send(self, parcel):
        net, failed, parcels = self.now
        if len(parcels) == 20:
            raise TooGreat(20)
        self.change(net, failed, (*parcels, (("on", parcel), (parcel,))))
        return len(parcels)

    def choices(self, number):
        place = self.place(number)
        return choices(*self.now[:2], head_of(self.now[0], place[1])) if place[0] == "on" else ()

    def step(self, number, choice=None):
        net, failed, parcels = self.now
        what, parcel = self.place(number)
        if what != "on":
            raise BadNumber(number)
        free = self.choices(number)
        if choice is not None and choice not in free:
            raise BadChoices(0)
        way = parcels[number][1]
        if free:
            later = dict(steps(net, failed, parcel))[choice or free[0]]
            if len(later[1]) > 3000:
                raise TooGreat(3000)
            place, way = ("on", later), (*way, later)
        elif fate(net, failed, head_of(net, parcel)) == "home":
            place = ("home", net[0][parcel[0]][1])
        else:
            place = ("lost", parcel)
        self.change(net, failed, (*parcels[:number], (place, way), *parcels[number + 1 :]))
        return place

    def turn(self, net, failed):
        ahead = self.all_hopes()
        self.change(net, failed, self.now[2])
        return tuple(number for number, hopes in enumerate(self.all_hopes()) if hopes != ahead[number])

    def fail(self, road):
        if road in self.now[1]:
            raise BadFailed(road)
        return self.turn(self.now[0], tuple(sorted({*self.now[1], road})))

    def mend(self, road):
        if road not in self.now[1]:
            raise BadFailed(road)
        return self.turn(self.now[0], tuple(sorted({*self.now[1]} - {road})))

    def put(self, head, groups):
        return self.turn(with_row(self.now[0], head, groups), self.now[1])

    def drop(self, head):
        if head not in dict(self.now[0][2]):
            raise BadHead(head)
        return self.turn(with_row(self.now[0], head, None), self.now[1])

    def danger(self, most):
        net, failed, parcels = self.now
        found = []
        for number, (place, way) in enumerate(parcels):
            for more in failures(net, most):
                together = tuple(sorted({*failed, *more}))
                if place[0] == "lost" or place[0] == "on" and LOST in outcomes(net, together, place[1]):
                    found.append(number)
                    break
        return tuple(found)

    def undo(self):
        return self.go(self.past, self.future)

    def redo(self):
        return self.go(self.future, self.past)

    def go(self, source, target):
        if source:
            target.append(self.now)
            self.now = source.pop()
            return True
        return False


def some_deed(chance, live):
    """The name of a method and its arguments; some of them are refused."""
    net = live.net
    number = chance.randrange(len(live) + 1)
    road = chance.randrange(len(net[0]))
    head = chance.choice(all_heads(net))
    name = chance.choice("send send step step step step step fail mend put drop undo undo redo danger".split())
    if name == "send":
        return name, ((road, some_word(chance, net[1], 3)),)
    if name == "step":
        free = live.choices(number) if number < len(live) else ()
        wanted = (chance.choice(free),) if free and chance.random() < 0.4 else ()
        return name, (number, *(wanted or ([(road, ())] if chance.random() < 0.1 else [])))
    if name in ("fail", "mend"):
        return name, (road,)
    if name == "put":
        return name, (head, some_groups(chance, net[0], net[1], head[0]))
    return name, {"drop": (head,), "danger": (chance.randrange(2),)}.get(name, ())


def told_of(target, name, values):
    """What a method returns, or the error that it raises."""
    try:
        return getattr(target, name)(*values)
    except (NetError, TooGreat) as error:
        return error.__class__, vars(error)


class Case(unittest.TestCase):
    def refused(self, live, error, call, *values):
        """The error that a method raises, which has no other effect."""
        ahead = story(live)
        told = told_by(self, error, getattr(live, call), *values)
        self.assertEqual(story(live), ahead)
        return told
