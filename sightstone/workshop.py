"""The workshop: eyes are set, places are spoken of and grains are chipped off, deed by deed."""

from sightstone.agree import bar_of, barred
from sightstone.carving import carve
from sightstone.errors import (
    BadSign, BadSpot, Contrary, NoGrain, NoPlace, NotBarred, NotCarved, NothingAgain, NothingBack, Taken, TooMany,
    Unknown, Unsaid,
)
from sightstone.moments import Moment, block_without, carved_anew, with_eyes, with_stone, with_sure
from sightstone.names import checked_name
from sightstone.papers import because
from sightstone.pictures import VEIL, checked_picture, is_sign
from sightstone.places import checked_block, checked_direction, inside
from sightstone.stones import joined, lacking

MOST_EYES = 8


class Workshop:
    """One block, with all that is kept of it now and was kept ahead of each deed."""

    def __init__(self, sizes):
        self.sizes = checked_block(sizes)
        self.now = carved_anew(self.sizes, [], [], [])
        self.past = []
        self.undone = []

    def eye(self, name, way, picture):
        """Set an eye behind the others."""
        checked_name(name)
        if name in self.names():
            raise Taken("an eye has this name already")
        if len(self.now.eyes) >= MOST_EYES:
            raise TooMany("there are eight eyes already")
        good = checked_direction(way)
        eyes = self.now.eyes + [(name, good, checked_picture(self.sizes, good, picture))]
        self.count_deed(with_eyes(self.now, eyes))

    def shut(self, name):
        """Take an eye away, and carve anew."""
        at = self.eye_number(name)
        now = self.now
        eyes = now.eyes[:at] + now.eyes[at + 1:]
        self.count_deed(carved_anew(self.sizes, eyes, now.said_gone, now.said_sure))

    def repaint(self, name, spot, sign):
        """Put one sign of an eye's picture, and carve anew where it told another one."""
        at = self.eye_number(name)
        now = self.now
        way, picture = self.look(name)
        if not 0 <= spot < len(picture):
            raise BadSpot("no door has this number")
        if not is_sign(sign):
            raise BadSign("a sign is a letter from a to z, a full stop or a question mark")
        changed = (name, way, picture[:spot] + sign + picture[spot + 1:])
        eyes = now.eyes[:at] + [changed] + now.eyes[at + 1:]
        if picture[spot] in (VEIL, sign):
            self.count_deed(with_eyes(now, eyes))
        else:
            self.count_deed(carved_anew(self.sizes, eyes, now.said_gone, now.said_sure))

    def drop(self, place):
        """Say that a place is gone."""
        spot = self.unsaid_place(place)
        now = self.now
        said_gone = joined(now.said_gone, [spot])
        rows = [row for row in now.rows if row[0] != spot]
        self.count_deed(Moment(now.eyes, said_gone, now.said_sure, lacking(now.grains, [spot]), rows))

    def keep(self, place):
        """Say that a place is sure."""
        spot = self.unsaid_place(place)
        self.count_deed(with_sure(self.now, joined(self.now.said_sure, [spot])))

    def free(self, place):
        """Say nothing of a place any more, and carve anew where it was gone."""
        spot = self.known_place(place)
        now = self.now
        if spot in now.said_gone:
            said_gone = lacking(now.said_gone, [spot])
            self.count_deed(carved_anew(self.sizes, now.eyes, said_gone, now.said_sure))
        elif spot in now.said_sure:
            self.count_deed(with_sure(now, lacking(now.said_sure, [spot])))
        else:
            raise Unsaid("nothing is said of the place")

    def chip(self, place):
        """Take a barred grain off the standing stone."""
        spot = self.known_place(place)
        now = self.now
        if spot not in now.grains:
            raise NoGrain("the place is no grain of the standing stone")
        bar = bar_of(self.sizes, self.looks(), now.grains, spot)
        if bar is None:
            raise NotBarred("the looks do not bar the grain")
        row = (spot, bar[0], bar[1])
        self.count_deed(with_stone(now, lacking(now.grains, [spot]), now.rows + [row]))

    def finish(self, picks):
        """Carve on by the picks until the stone agrees."""
        left, rows = carve(self.sizes, self.looks(), self.now.grains, picks)
        self.count_deed(with_stone(self.now, left, self.now.rows + rows))

    def back(self):
        """Take back the last deed that is not taken back."""
        if not self.past:
            raise NothingBack("there is no deed to take back")
        self.undone.append(self.now)
        self.now = self.past.pop()

    def again(self):
        """Do again what was taken back last."""
        if not self.undone:
            raise NothingAgain("there is no deed to do again")
        self.past.append(self.now)
        self.now = self.undone.pop()

    def twin(self):
        """Answer a workshop that is the same now and goes its own way from then on."""
        other = Workshop(self.sizes)
        other.now = self.now
        other.past = list(self.past)
        other.undone = list(self.undone)
        return other

    def block(self):
        """Answer the sizes of the block."""
        return self.sizes

    def names(self):
        """Answer the eyes' names, in the order of setting."""
        return [name for name, way, picture in self.now.eyes]

    def look(self, name):
        """Answer the look of the eye that has this name."""
        return self.looks()[self.eye_number(name)]

    def looks(self):
        """Answer the looks of all eyes, in the order of setting."""
        return [(way, picture) for name, way, picture in self.now.eyes]

    def gone(self):
        """Answer the places that are said to be gone, rising."""
        return list(self.now.said_gone)

    def sure(self):
        """Answer the places that are said to be sure, rising."""
        return list(self.now.said_sure)

    def standing(self):
        """Answer the standing stone."""
        return list(self.now.grains)

    def paper(self):
        """Answer the rows of the grains carved off, in their order."""
        return list(self.now.rows)

    def end(self):
        """Answer the stone to which carving comes."""
        left, rows = carve(self.sizes, self.looks(), self.now.grains, [])
        return left

    def quarrel(self):
        """Answer the sure places that the end lacks, rising."""
        return lacking(self.now.said_sure, self.end())

    def loose(self):
        """Answer the rows of the standing stone's barred grains, rising."""
        return barred(self.sizes, self.looks(), self.now.grains)

    def why(self, place):
        """Answer the rows that the row of this place needs where carving goes on to the end."""
        spot = self.known_place(place)
        now = self.now
        left, rows = carve(self.sizes, self.looks(), now.grains, [])
        if spot in now.said_gone or spot in left:
            raise NotCarved("the place is gone, or in the end")
        start = block_without(self.sizes, now.said_gone)
        return because(self.sizes, self.looks(), start, now.rows + rows, spot)

    def count_deed(self, moment):
        """Go on to the moment that a deed made, and let go what was taken back."""
        self.past.append(self.now)
        self.undone = []
        self.now = moment

    def eye_number(self, name):
        """Answer the number of the eye that has this name, or raise Unknown."""
        names = self.names()
        if name not in names:
            raise Unknown("no eye has this name")
        return names.index(name)

    def known_place(self, place):
        """Answer the tuple of a place of the block, or raise NoPlace."""
        if not inside(self.sizes, place):
            raise NoPlace("the place is not in the block")
        return tuple(place)

    def unsaid_place(self, place):
        """Answer the tuple of a place of which nothing is said, or raise NoPlace or Contrary."""
        spot = self.known_place(place)
        if spot in self.now.said_gone or spot in self.now.said_sure:
            raise Contrary("the place is said to be gone or sure already")
        return spot


def resumed(shop, paper):
    """Answer a workshop of the same eyes and sayings with this paper, all of whose rows stand, and without deeds."""
    other = Workshop(shop.sizes)
    grains = lacking(block_without(shop.sizes, shop.now.said_gone), [row[0] for row in paper])
    other.now = with_stone(shop.now, grains, list(paper))
    return other
