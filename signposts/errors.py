"""What is told where something handed in is refused."""


class SignError(ValueError):
    """Something handed in is refused."""


class BadLand(SignError):
    """It is no land."""


class BadSigns(SignError):
    """They are no signs of the land."""


class BadPlace(SignError):
    """It is no place of the land."""


class BadRoad(SignError):
    """No road of the land leads from the place to it."""


class AtHome(SignError):
    """No sign is turned or lost at home."""


class NoSign(SignError):
    """No sign stands there."""
