"""Pictures: texts of one sign for each door of a way, in the doors' order."""

from sightstone.errors import BadPicture
from sightstone.places import door_of, doors_of
from sightstone.stones import seen_from

LETTERS = "abcdefghijklmnopqrstuvwxyz"
SKY = "."
VEIL = "?"


def is_letter(sign):
    """Tell whether the text is one letter from a to z."""
    # The length is asked, too: each run of letters and the empty text stand in the alphabet.
    return len(sign) == 1 and sign in LETTERS


def is_sign(sign):
    """Tell whether the text is one sign of a picture."""
    return sign in (SKY, VEIL) or is_letter(sign)


def checked_picture(sizes, way, picture):
    """Answer the picture itself, or raise BadPicture."""
    if len(picture) != len(doors_of(sizes, way)):
        raise BadPicture("a picture has one sign for each door")
    if not all(is_sign(sign) for sign in picture):
        raise BadPicture("a sign of a picture is a letter from a to z, a full stop or a question mark")
    return picture


def sign_of(sizes, way, picture, place):
    """Answer the sign that the picture has for the door of the place's line."""
    return picture[doors_of(sizes, way).index(door_of(sizes, way, place))]


def snapped(sizes, way, stone, paint):
    """Answer the picture of the painted stone along the way."""
    letters = dict(zip(stone, paint))
    shown = {door_of(sizes, way, grain): letters[grain] for grain in seen_from(sizes, way, stone)}
    return "".join(shown.get(door, SKY) for door in doors_of(sizes, way))


def veiled(picture, spots):
    """Answer the picture with a veil at each of the spots."""
    return "".join(VEIL if number in spots else sign for number, sign in enumerate(picture))


def blank(sizes, way):
    """Answer the picture of veils."""
    return VEIL * len(doors_of(sizes, way))


def tells_no_more(one, other):
    """Tell whether each sign of the one is a veil or the other one's sign there."""
    return len(one) == len(other) and all(mine in (VEIL, its) for mine, its in zip(one, other))
