"""Carving: barred grains go, one after another, until the stone agrees."""

from sightstone.agree import bare, bars_in
from sightstone.paints import painted
from sightstone.places import places_of
from sightstone.stones import lacking
from sightstone.views import lost, views_of


def carve(sizes, looks, stone, picks):
    """Answer the stone left and the paper of the grains that went."""
    views = views_of(sizes, looks, stone)
    loose = bars_in(views, stone)
    paper = []
    while loose:
        grain = picked(sorted(loose), picks, len(paper))
        i, j = loose.pop(grain)
        paper.append((grain, i, j))
        # A grain's bar changes only where one more eye comes to see it, so the others are not asked again.
        uncovered = lost(views, grain)
        for other, bar in bars_in(views, uncovered).items():
            loose[other] = bar
    return (lacking(stone, [row[0] for row in paper]), paper)


def picked(grains, picks, turn):
    """Answer the grain that the picks take at this turn, or the first one where they are used up."""
    if turn >= len(picks):
        return grains[0]
    return grains[picks[turn] % len(grains)]


def greatest(sizes, looks):
    """Answer the greatest stone of the looks."""
    left, paper = carve(sizes, looks, places_of(sizes), [])
    return left


def verdict(sizes, looks):
    """Answer whether some stone shows the looks, with a paint of the greatest one or the first door left bare."""
    stone = greatest(sizes, looks)
    rows = bare(sizes, looks, stone)
    if rows:
        return (False, rows[0])
    return (True, painted(sizes, looks, stone))


def thinned(sizes, looks):
    """Answer the numbers of the looks that are kept, rising."""
    whole = greatest(sizes, looks)
    kept = list(range(len(looks)))
    for number in reversed(range(len(looks))):
        others = [other for other in kept if other != number]
        if greatest(sizes, [looks[other] for other in others]) == whole:
            kept = others
    return kept
