"""Paints: texts of one letter for each grain, in the grains' order."""

from sightstone.pictures import is_letter
from sightstone.views import told_to, views_of


def painted(sizes, looks, stone, free="a"):
    """Answer the paint that the looks tell of an agreeing stone, with the free letter where they tell none."""
    views = views_of(sizes, looks, stone)
    return "".join(letter_for(views, grain, free) for grain in stone)


def letter_for(views, grain, free):
    """Answer the letter told to the grain, or the free letter."""
    for number, sign in told_to(views, grain):
        if is_letter(sign):
            return sign
    return free
