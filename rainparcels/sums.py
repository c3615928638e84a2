"""Sums of sets, of values and of the pieces of a load."""

from rainparcels.errors import BadPlaces


def odd_ones(one, other):
    """The sum of two rising lists: what just one of both has, rising."""
    out = []
    here = 0
    there = 0
    while here < len(one) and there < len(other):
        if one[here] < other[there]:
            out.append(one[here])
            here += 1
        elif other[there] < one[here]:
            out.append(other[there])
            there += 1
        else:
            here += 1
            there += 1
    out.extend(one[here:])
    out.extend(other[there:])
    return out


def added(one, other):
    """The sum of two values of one width, bit by bit."""
    return tuple([bit ^ its for bit, its in zip(one, other)])


def rising_within(places, many):
    """Whether these are places of so many pieces, rising, each once."""
    # -1 stands below every place, so that the first one is held to 0 or more.
    last = -1
    for place in places:
        if place <= last or place >= many:
            return False
        last = place
    return True


def value_of(load, places):
    """The sum of the pieces at these places; all 0 where there are none."""
    if not rising_within(places, len(load)):
        raise BadPlaces("the places must rise, and the load must have them")
    total = (0,) * len(load[0])
    for place in places:
        total = added(total, load[place])
    return total
