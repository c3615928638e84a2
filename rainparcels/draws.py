"""Parcels that are drawn by their numbers."""

from rainparcels.sums import value_of


def drawn(number, many):
    """The set of places of parcel `number` of a load of `many` pieces."""
    places = []
    x = (48271 * (number + 1)) % 65537
    for place in range(many):
        x = (75 * x + 74) % 65537
        if x % 5 < 2:
            places.append(place)
    if not places:
        places.append(number % many)
    return places


def parcel(load, number):
    """The parcel of that number of a load: its set and its value."""
    places = drawn(number, len(load))
    return places, value_of(load, places)
