"""Stones: rising lists of places of a block, none twice."""

from sightstone.errors import BadStone
from sightstone.places import door_of, hides, inside, line_of


def checked_stone(sizes, rows):
    """Answer the stone of places in any order, or raise BadStone."""
    places = [tuple(row) for row in rows]
    if not all(inside(sizes, place) for place in places):
        raise BadStone("a place of the stone is not in the block")
    stone = sorted(set(places))
    if len(stone) != len(places):
        raise BadStone("a place of the stone is there twice")
    return stone


def first_on(sizes, way, stone, door):
    """Answer the grain seen on the door's line, or None where the line has no grain."""
    for place in line_of(sizes, way, door):
        if place in stone:
            return place
    return None


def seen_from(sizes, way, stone):
    """Answer the stone of the grains that an eye sees along the way."""
    nearest = {}
    for grain in stone:
        door = door_of(sizes, way, grain)
        if door not in nearest or hides(way, grain, nearest[door]):
            nearest[door] = grain
    return sorted(nearest.values())


def joined(one, other):
    """Answer the stone of the grains of either stone."""
    return sorted(set(one) | set(other))


def shared(one, other):
    """Answer the stone of the grains of both stones."""
    return sorted(set(one) & set(other))


def lacking(one, other):
    """Answer the stone of the grains of the one that the other lacks."""
    return sorted(set(one) - set(other))


def lies_within(one, other):
    """Tell whether the other has all grains of the one."""
    return lacking(one, other) == []
