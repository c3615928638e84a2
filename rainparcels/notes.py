"""Parcels in writing."""

from rainparcels.errors import BadText
from rainparcels.sums import rising_within


def shown(places, value):
    """The text of a parcel: its places, a sign of equality and its bits."""
    words = [str(place) for place in places]
    bits = "".join([str(bit) for bit in value])
    return " ".join(words + ["=", bits])


def read(text, many, wide):
    """The parcel that is written, for a load of `many` pieces of `wide` bits."""
    words = text.split(" ")
    if len(words) < 2 or words[-2] != "=":
        raise BadText("a sign of equality and bits must end the text")
    return places_of(words[:-2], many), bits_of(words[-1], wide)


def places_of(words, many):
    """The set of places in figures."""
    # Looked up instead of read by int, which takes signs, underscores and noughts ahead.
    known = {str(place): place for place in range(many)}
    if not all([word in known for word in words]):
        raise BadText("a place must be written in figures, and the load must have it")
    places = [known[word] for word in words]
    if not rising_within(places, many):
        raise BadText("the places must rise")
    return places


def bits_of(word, wide):
    """The value of bits."""
    if len(word) != wide or not all([sign in ("0", "1") for sign in word]):
        raise BadText("the bits must be 0 or 1, and as many as the load is wide")
    return tuple([int(sign) for sign in word])
