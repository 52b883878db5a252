"""Papers: the rows of grains that went, looked through again and asked for what they need."""

from sightstone.pictures import SKY, is_letter
from sightstone.places import hides
from sightstone.views import lost, views_of


def fault_of(sizes, looks, stone, paper, left):
    """Answer the number of the first row that does not stand, their count where another stone is left, or None."""
    views = views_of(sizes, looks, stone)
    # A dict keeps the grains in the stone's order, so what is left of it is a stone, too.
    grains = {grain: True for grain in stone}
    for number, row in enumerate(paper):
        if not stands(views, grains, row):
            return number
        lost(views, row[0])
        del grains[row[0]]
    return None if list(grains) == left else len(paper)


def stands(views, grains, row):
    """Tell whether the row bars a grain of the stone as the views have it."""
    place, i, j = row
    if place not in grains or not 0 <= i <= j < len(views):
        return False
    one, other = views[i], views[j]
    if not (one.sees(place) and other.sees(place)):
        return False
    return signs_bar(i == j, one.sign_for(place), other.sign_for(place))


def signs_bar(alone, one, other):
    """Tell whether the sky of one look alone, or else the unlike letters of two looks, bar what they see."""
    if alone:
        return one == SKY
    return is_letter(one) and is_letter(other) and one != other


def because(sizes, looks, stone, paper, place):
    """Answer the rows that the row of this place needs, in the paper's order."""
    needed = {place: True}
    # What hides a grain went ahead of it, so from the last row on a row comes behind all that need it.
    for row in reversed(paper):
        if row[0] in needed:
            for grain in hiders_of(looks, stone, row):
                needed[grain] = True
    return [row for row in paper if row[0] in needed]


def hiders_of(looks, stone, row):
    """Answer the grains of the stone that hide the row's place from one of its two looks."""
    place, i, j = row
    return [grain for grain in stone if hides(looks[i][0], grain, place) or hides(looks[j][0], grain, place)]
