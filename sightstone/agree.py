"""What bars a grain, and which stones agree with looks and show them."""

from sightstone.pictures import SKY, is_letter
from sightstone.views import told_to, views_of


def bar_of(sizes, looks, stone, place):
    """Answer the bar of a grain of the stone, or None."""
    return bar_in(views_of(sizes, looks, stone), place)


def bar_in(views, grain):
    """Answer the bar that the views tell of the grain, or None."""
    told = told_to(views, grain)
    for number, sign in told:
        if sign == SKY:
            return (number, number)
    letters = [(number, sign) for number, sign in told if is_letter(sign)]
    for number, sign in letters:
        # Where none is unlike the first letter, no two are unlike: so the first one is always the i.
        if sign != letters[0][1]:
            return (letters[0][0], number)
    return None


def bars_in(views, grains):
    """Answer a dict from each of the grains that is barred to its bar."""
    bars = {}
    for grain in grains:
        bar = bar_in(views, grain)
        if bar is not None:
            bars[grain] = bar
    return bars


def barred(sizes, looks, stone):
    """Answer the rows (place, i, j) of all barred grains, rising."""
    bars = bars_in(views_of(sizes, looks, stone), stone)
    return [(grain, i, j) for grain, (i, j) in bars.items()]


def agrees(sizes, looks, stone):
    """Tell whether no grain of the stone is barred in it."""
    return barred(sizes, looks, stone) == []


def lettered_rows(sizes, looks, stone):
    """Answer the rows (number of the look, door, grains on its line) of all doors with a letter, rising."""
    views = views_of(sizes, looks, stone)
    return [
        (number, door, view.rows[door])
        for number, view in enumerate(views)
        for door, sign in view.signs.items()
        if is_letter(sign)
    ]


def bare(sizes, looks, stone):
    """Answer the rows (number of the look, door) of all doors left bare, rising."""
    return [(number, door) for number, door, grains in lettered_rows(sizes, looks, stone) if grains == []]


def shows(sizes, looks, stone):
    """Tell whether the stone agrees with the looks and leaves no door bare."""
    return agrees(sizes, looks, stone) and bare(sizes, looks, stone) == []


def sole(sizes, looks, stone):
    """Answer the stone of the grains that stand alone on the line of a door with a letter."""
    alone = [grains[0] for number, door, grains in lettered_rows(sizes, looks, stone) if len(grains) == 1]
    return sorted(set(alone))
