"""Names of eyes and of stones on a shelf."""

from sightstone.errors import BadName
from sightstone.pictures import is_letter

LONGEST_NAME = 12


def checked_name(name):
    """Answer the name itself, or raise BadName."""
    if not 1 <= len(name) <= LONGEST_NAME:
        raise BadName("a name has 1 to 12 letters")
    if not all(is_letter(sign) for sign in name):
        raise BadName("a name has letters from a to z alone")
    return name
