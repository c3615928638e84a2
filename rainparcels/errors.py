"""The refusals of the package."""


class RainError(ValueError):
    """Any refusal."""


class NoYard(RainError):
    """A yard out of bounds: so many pieces or so wide it may not be."""


class BadPlaces(RainError):
    """Places that don't rise, or that the load doesn't have."""


class BadValue(RainError):
    """A value of another width, or of what is no bit."""


class BadText(RainError):
    """A text that is not a written parcel."""


class NoParcel(RainError):
    """A number that no parcel has."""


class Full(RainError):
    """The yard takes no more parcels."""


class IsOut(RainError):
    """The parcel is left out already."""


class NotOut(RainError):
    """The parcel is not left out."""
