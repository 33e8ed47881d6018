"""Live nets: parcels go step by step on a net whose roads fail and are mended, and whose rows are changed.

What a live net is at one time is a *moment*, a tuple that never changes: the net, the failed roads, where the parcels
are, and the number of the parcel that the deed sent or moved by which the moment came, or None. A live net keeps all
its moments from the first one on, also those that were taken back, and the number of the present one.
"""

from labelroads.errors import BadFailed, BadHead, BadNumber, TooGreat
from labelroads.forms import is_number
from labelroads.machines import accepts, least_table
from labelroads.nets import (
    failed_sets, free_choices, groups_at, known_fate, need_head, need_most, need_net, need_road,
)
from labelroads.outcomes import outcomes_of
from labelroads.parcels import MOST_STACK, head_at, need_parcel, walk
from labelroads.turning import with_groups, without_row

MOST_PARCELS = 20


def hopes_at(net, failed, places):
    """The hopes of parcels that are at these places, in their order."""
    told = outcomes_of(net, failed, [what for word, what in places if word == "on"])
    return [hopes_by(told, place) for place in places]


def hopes_by(told, place):
    """The hopes of a parcel at a place, by a dict from the parcels that have not ended to their outcomes."""
    if place[0] == "on":
        return told[place[1]]
    return (place,) if place[0] == "home" else (("lost",),)


def place_behind_step(net, failed, parcel, choice):
    """Where a parcel is behind a step by a choice, or by the first one that it can take if choice is None."""
    free = free_choices(net, failed, head_at(parcel[0], parcel[1]))
    if choice is None and not free:
        return place_of_end(net, failed, parcel)
    road, stack = walk(net, failed, parcel, (free[0] if choice is None else choice,))
    if len(stack) > MOST_STACK:
        raise TooGreat(MOST_STACK)
    return ("on", (road, stack))


def place_of_end(net, failed, parcel):
    """Where a parcel is that ends, because it can take no choice."""
    road, stack = parcel
    if known_fate(net, failed, head_at(road, stack)) == "home":
        return ("home", net[0][road][1])
    return ("lost", parcel)


def endangered(net, failed, places, most):
    """The numbers of the parcels that are lost, or can be if at most so many further roads fail, ascending."""
    found = {number: True for number, place in enumerate(places) if place[0] == "lost"}
    for further in failed_sets(net, most):
        # A set with a road that has failed already is told by the smaller set without it.
        if any([road in failed for road in further]):
            continue
        table = least_table(net, tuple(sorted([*failed, *further])), ("lost",))
        for number, (word, what) in enumerate(places):
            if word == "on" and number not in found and accepts(net, table, what):
                found[number] = True
    return tuple(sorted(list(found)))


def way_of(moments, number):
    """The parcels that a parcel has been, by moments from the first one on."""
    places = [moment[2][number] for moment in moments if moment[3] == number]
    return tuple([what for word, what in places if word == "on"])


def seen_of(moments, present):
    """What there is to see of a live net: its net and failed roads, where its parcels are, and their ways."""
    net, failed, places, moved = moments[present]
    past = moments[: present + 1]
    return (net, failed, places, [way_of(past, number) for number in range(len(places))])


class Trial:
    """A block in which a live net is led; behind it the live net is what it was when the block began."""

    def __init__(self, led):
        self.led = led
        self.moments = led.moments
        self.present = led.present

    def __enter__(self):
        self.moments = self.led.moments
        self.present = self.led.present
        return self.led

    def __exit__(self, kind, value, trace):
        self.led.moments = self.moments
        self.led.present = self.present


class Live:
    """A net on which parcels go, whose roads fail and are mended, and whose rows are changed."""

    def __init__(self, net):
        need_net(net)
        self.moments = ((net, (), (), None),)
        self.present = 0

    @property
    def net(self):
        """The net as it is now."""
        return self.moments[self.present][0]

    @property
    def failed(self):
        """The roads that have failed, ascending."""
        return self.moments[self.present][1]

    def places(self):
        """Where the parcels are, in the order of their numbers."""
        return self.moments[self.present][2]

    def __len__(self):
        return len(self.places())

    def __iter__(self):
        raise TypeError("live nets are not iterated over")

    def __getitem__(self, at):
        self.need_number(at)
        return self.places()[at]

    def __eq__(self, other):
        if not isinstance(other, Live):
            return False
        return seen_of(self.moments, self.present) == seen_of(other.moments, other.present)

    def need_number(self, number):
        """BadNumber if this is no number of a parcel."""
        if not is_number(number, 0, len(self) - 1):
            raise BadNumber(number)

    def keep(self, net, failed, places, moved):
        """Goes on to another moment; what was taken back cannot be done again then."""
        self.moments = (*self.moments[: self.present + 1], (net, failed, places, moved))
        self.present = self.present + 1

    def move(self, number, place):
        """Lets the parcel with this number, or one more, be at a place."""
        places = self.places()
        self.keep(self.net, self.failed, (*places[:number], place, *places[number + 1 :]), number)

    def turn(self, net, failed):
        """Changes the net, or the failed roads; returns the numbers of the parcels that are turned."""
        ahead = hopes_at(self.net, self.failed, self.places())
        behind = hopes_at(net, failed, self.places())
        self.keep(net, failed, self.places(), None)
        return tuple([number for number in range(len(self)) if ahead[number] != behind[number]])

    def send(self, parcel):
        """Puts a parcel onto the net; returns its number."""
        need_parcel(self.net, parcel)
        number = len(self)
        if number == MOST_PARCELS:
            raise TooGreat(MOST_PARCELS)
        self.move(number, ("on", parcel))
        return number

    def choices(self, number):
        """The choices that a parcel can take now, ascending."""
        word, what = self[number]
        return free_choices(self.net, self.failed, head_at(what[0], what[1])) if word == "on" else ()

    def hopes(self, number):
        """What can become of a parcel, ascending."""
        return hopes_at(self.net, self.failed, (self[number],))[0]

    def way(self, number):
        """The parcels that a parcel has been, from the first one on."""
        self.need_number(number)
        return way_of(self.moments[: self.present + 1], number)

    def step(self, number, choice=None):
        """Lets a parcel take a choice, or the first one, or end; returns where it is then."""
        word, what = self[number]
        if word != "on":
            raise BadNumber(number)
        place = place_behind_step(self.net, self.failed, what, choice)
        self.move(number, place)
        return place

    def fail(self, road):
        """Lets a road fail; returns the numbers of the parcels that are turned."""
        need_road(self.net, road)
        if road in self.failed:
            raise BadFailed(road)
        return self.turn(self.net, tuple(sorted([*self.failed, road])))

    def mend(self, road):
        """Mends a road; returns the numbers of the parcels that are turned."""
        need_road(self.net, road)
        if road not in self.failed:
            raise BadFailed(road)
        return self.turn(self.net, tuple([other for other in self.failed if other != road]))

    def put(self, head, groups):
        """Gives a head a row; returns the numbers of the parcels that are turned."""
        need_head(self.net, head)
        return self.turn(with_groups(self.net, head, groups), self.failed)

    def drop(self, head):
        """Takes the row of a head away; returns the numbers of the parcels that are turned."""
        need_head(self.net, head)
        if not groups_at(self.net, head):
            raise BadHead(head)
        return self.turn(without_row(self.net, head), self.failed)

    def danger(self, most):
        """The numbers of the parcels that are lost, or can be if at most so many further roads fail, ascending."""
        need_most(most)
        return endangered(self.net, self.failed, self.places(), most)

    def undo(self):
        """Takes the last deed back; returns whether there was one."""
        if self.present == 0:
            return False
        self.present = self.present - 1
        return True

    def redo(self):
        """Does the deed again that was taken back last; returns whether there was one."""
        if self.present == len(self.moments) - 1:
            return False
        self.present = self.present + 1
        return True

    def copy(self):
        """A live net that is equal and goes on by itself."""
        other = Live(self.net)
        other.moments = self.moments
        other.present = self.present
        return other

    def trial(self):
        """What a block is led by whose deeds are not to stay."""
        return Trial(self)


def tried(live, deed):
    """What a deed returns that is called with a live net in a trial."""
    with live.trial() as same:
        return deed(same)
