"""What a workshop keeps at one moment."""

from sightstone.places import places_of
from sightstone.stones import lacking


class Moment:
    """Eyes as rows (name, way, picture), sayings, the standing stone and its paper.

    Deeds that are taken back and twins share moments, so no list of a moment is ever changed.
    """

    def __init__(self, eyes, said_gone, said_sure, grains, rows):
        self.eyes = eyes
        self.said_gone = said_gone
        self.said_sure = said_sure
        self.grains = grains
        self.rows = rows


def block_without(sizes, said_gone):
    """Answer the stone from which carving begins."""
    return lacking(places_of(sizes), said_gone)


def carved_anew(sizes, eyes, said_gone, said_sure):
    """Answer the moment of these eyes and sayings at which nothing is carved off yet."""
    return Moment(eyes, said_gone, said_sure, block_without(sizes, said_gone), [])


def with_eyes(now, eyes):
    """Answer the moment with these eyes instead of its own."""
    return Moment(eyes, now.said_gone, now.said_sure, now.grains, now.rows)


def with_sure(now, said_sure):
    """Answer the moment with these places said to be sure instead of its own."""
    return Moment(now.eyes, now.said_gone, said_sure, now.grains, now.rows)


def with_stone(now, grains, rows):
    """Answer the moment with this standing stone and paper instead of its own."""
    return Moment(now.eyes, now.said_gone, now.said_sure, grains, rows)
