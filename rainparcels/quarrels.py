"""Quarrels of parcels: whether a load fits them, and whom to suspect."""

from rainparcels.span import Span
from rainparcels.sums import rising_within


def sifted(parcels):
    """The span of the parcels up to the first quarrel, and that quarrel or None."""
    span = Span()
    for number, (places, value) in enumerate(parcels):
        word, numbers = span.judged(places, value, number)
        if word == "against":
            return span, numbers + [number]
    return span, None


def quarrel(parcels):
    """Numbers of parcels whose sets' sum is empty and whose values' isn't all 0, or None."""
    _, found = sifted(parcels)
    return found


def fitting(parcels, many, wide):
    """A load that fits all parcels, or None."""
    # A load of so many pieces has no sum at places that it lacks.
    if not all([rising_within(places, many) for places, _ in parcels]):
        return None
    span, found = sifted(parcels)
    if found is not None:
        return None
    # With all 0 at every place that is no lead, a lead's piece is its row's value.
    load = [(0,) * wide] * many
    for lead, row in span.rows.items():
        load[lead] = row[1]
    return load


def suspects(parcels):
    """The numbers without which, each alone left out, a quarrel is gone."""
    found = quarrel(parcels)
    if found is None:
        return []
    # This quarrel stays where a parcel is left out that is not in it.
    return [number for number in found if quarrel(parcels[:number] + parcels[number + 1:]) is None]
