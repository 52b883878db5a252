"""The refusals of the program, each straight under SightError."""


class SightError(ValueError):
    """Any refusal of this program."""


class BadBlock(SightError):
    """The sizes are not those of a block."""


class BadDirection(SightError):
    """The numbers are not a way."""


class BadStone(SightError):
    """The places are not a stone of the block."""


class BadPicture(SightError):
    """The text is not a picture for the way."""


class BadName(SightError):
    """The text is not a name."""


class BadSpot(SightError):
    """No door has this number."""


class BadSign(SightError):
    """The text is not a sign of a picture."""


class Taken(SightError):
    """The name is in use already."""


class Unknown(SightError):
    """Nothing has this name."""


class TooMany(SightError):
    """There is no room for one more eye."""


class NoPlace(SightError):
    """The place is not in the block."""


class NoGrain(SightError):
    """The place is not a grain of the standing stone."""


class NotBarred(SightError):
    """The looks do not bar the grain."""


class Contrary(SightError):
    """Something is said of the place already."""


class Unsaid(SightError):
    """Nothing is said of the place."""


class NotCarved(SightError):
    """The place is not carved off."""


class NothingBack(SightError):
    """There is no deed to take back."""


class NothingAgain(SightError):
    """There is no deed to do again."""


class BadPage(SightError):
    """The text is not a page."""
