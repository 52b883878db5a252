"""A workshop by the document's words, without the program, and what a workshop answers."""

from copy import deepcopy
from math import gcd

from plain_looks import LETTERS, SIGNS, plain_bar, plain_barred, plain_carve, plain_doors
from plain_papers import plain_because
from samples import plain_places
from sightstone.errors import SightError


class Refused(Exception):
    """The refusal of the plain workshop, by its name."""


def refusal_of(function, *handed):
    """The name of the refusal, or None where the function answers."""
    try:
        function(*handed)
    except SightError as error:
        return type(error).__name__
    except Refused as error:
        return str(error)
    return None


def is_name(name):
    return 1 <= len(name) <= 12 and all(sign in LETTERS for sign in name)


def is_good_way(way):
    return len(way) == 3 and max(abs(part) for part in way) <= 3 and gcd(*way) == 1


def refuse_unless(good, name):
    if not good:
        raise Refused(name)


class PlainShop:
    """All that the workshop keeps lies in one dict, which is copied whole ahead of each deed."""

    def __init__(self, sizes):
        self.sizes = tuple(sizes)
        self.kept = {"eyes": [], "gone": [], "sure": [], "stone": plain_places(self.sizes), "paper": []}
        self.done, self.undone = [], []

    def count(self):
        """Called where a deed is not refused any more, ahead of all that it changes."""
        self.done.append(deepcopy(self.kept))
        self.undone = []

    def carve_anew(self):
        self.kept["stone"] = [place for place in plain_places(self.sizes) if place not in self.kept["gone"]]
        self.kept["paper"] = []

    def find(self, name):
        refuse_unless(name in self.names(), "Unknown")
        return [eye for eye in self.kept["eyes"] if eye[0] == name][0]

    def check_place(self, place):
        refuse_unless(tuple(place) in plain_places(self.sizes), "NoPlace")
        return tuple(place)

    def check_unsaid(self, place):
        place = self.check_place(place)
        refuse_unless(place not in self.kept["gone"] + self.kept["sure"], "Contrary")
        return place

    def eye(self, name, way, picture):
        refuse_unless(is_name(name), "BadName")
        refuse_unless(name not in self.names(), "Taken")
        refuse_unless(len(self.kept["eyes"]) < 8, "TooMany")
        refuse_unless(is_good_way(way), "BadDirection")
        good = len(picture) == len(plain_doors(self.sizes, tuple(way))) and all(sign in SIGNS for sign in picture)
        refuse_unless(good, "BadPicture")
        self.count()
        self.kept["eyes"].append([name, tuple(way), picture])

    def shut(self, name):
        self.find(name)
        self.count()
        self.kept["eyes"].remove(self.find(name))
        self.carve_anew()

    def repaint(self, name, spot, sign):
        picture = self.find(name)[2]
        refuse_unless(spot in range(len(picture)), "BadSpot")
        refuse_unless(sign != "" and sign in list(SIGNS), "BadSign")
        self.count()
        self.find(name)[2] = "".join(sign if at == spot else old for at, old in enumerate(picture))
        if picture[spot] != "?" and picture[spot] != sign:
            self.carve_anew()

    def drop(self, place):
        place = self.check_unsaid(place)
        self.count()
        self.kept["gone"] = sorted(self.kept["gone"] + [place])
        self.kept["stone"] = [grain for grain in self.kept["stone"] if grain != place]
        self.kept["paper"] = [row for row in self.kept["paper"] if row[0] != place]

    def keep(self, place):
        place = self.check_unsaid(place)
        self.count()
        self.kept["sure"] = sorted(self.kept["sure"] + [place])

    def free(self, place):
        place = self.check_place(place)
        refuse_unless(place in self.kept["gone"] + self.kept["sure"], "Unsaid")
        self.count()
        if place in self.kept["sure"]:
            self.kept["sure"].remove(place)
        else:
            self.kept["gone"].remove(place)
            self.carve_anew()

    def chip(self, place):
        place = self.check_place(place)
        refuse_unless(place in self.kept["stone"], "NoGrain")
        bar = plain_bar(self.sizes, self.looks(), self.kept["stone"], place)
        refuse_unless(bar is not None, "NotBarred")
        self.count()
        self.kept["stone"].remove(place)
        self.kept["paper"].append((place, *bar))

    def finish(self, picks):
        self.count()
        left, paper = plain_carve(self.sizes, self.looks(), self.kept["stone"], picks)
        self.kept["stone"] = left
        self.kept["paper"] += paper

    def back(self):
        refuse_unless(self.done, "NothingBack")
        self.undone.append(self.kept)
        self.kept = self.done.pop()

    def again(self):
        refuse_unless(self.undone, "NothingAgain")
        self.done.append(self.kept)
        self.kept = self.undone.pop()

    def twin(self):
        return deepcopy(self)

    def block(self):
        return self.sizes

    def names(self):
        return [name for name, way, picture in self.kept["eyes"]]

    def look(self, name):
        return tuple(self.find(name)[1:])

    def looks(self):
        return [(way, picture) for name, way, picture in self.kept["eyes"]]

    def gone(self):
        return self.kept["gone"]

    def sure(self):
        return self.kept["sure"]

    def standing(self):
        return self.kept["stone"]

    def paper(self):
        return self.kept["paper"]

    def end(self):
        first = [place for place in plain_places(self.sizes) if place not in self.kept["gone"]]
        return plain_carve(self.sizes, self.looks(), first, [])[0]

    def quarrel(self):
        return [place for place in self.kept["sure"] if place not in self.end()]

    def loose(self):
        return plain_barred(self.sizes, self.looks(), self.kept["stone"])

    def why(self, place):
        place = self.check_place(place)
        refuse_unless(place not in self.kept["gone"] and place not in self.end(), "NotCarved")
        first = [place for place in plain_places(self.sizes) if place not in self.kept["gone"]]
        more = plain_carve(self.sizes, self.looks(), self.kept["stone"], [])[1]
        return plain_because(self.sizes, self.looks(), first, self.kept["paper"] + more, place)

    def page(self):
        rows = ["block " + " ".join(map(str, self.sizes))]
        rows += ["eye %s %d %d %d %s" % (name, *way, picture) for name, way, picture in self.kept["eyes"]]
        rows += ["gone %d %d %d" % place for place in self.kept["gone"]]
        rows += ["sure %d %d %d" % place for place in self.kept["sure"]]
        rows += ["chip %d %d %d %d %d" % (*place, i, j) for place, i, j in self.kept["paper"]]
        return "\n".join(rows)


LISTS = ["names", "looks", "gone", "sure", "standing", "paper", "end", "quarrel", "loose"]


def answers_of(shop, whys=True):
    """All that a workshop answers, with the refusals' names where it refuses."""
    told = {name: deepcopy(getattr(shop, name)()) for name in LISTS + ["block"]}
    for name in told["names"]:
        told["look of " + name] = shop.look(name)
    for place in plain_places(told["block"]) if whys else []:
        refusal = refusal_of(shop.why, place)
        told["why", place] = deepcopy(shop.why(place)) if refusal is None else refusal
    return told


def moments_of(shop):
    """What a workshop would answer if all its deeds were taken back or done again, one by one."""
    behind, ahead = [], []
    for told, step in ((behind, "back"), (ahead, "again")):
        other = shop.twin()
        while refusal_of(getattr(other, step)) is None:
            told.append(answers_of(other, False))
    return behind, ahead


def thrown_deed(dice, sizes, names, ways):
    """A deed and what is handed to it; some of them are refused."""
    place = dice.one_of(plain_places(sizes))
    if dice.below(3) == 0:
        place = list(place)
    if dice.below(20) == 0:
        place = (place[0], place[1] - 9, place[2])
    name = dice.one_of(names)
    kind = dice.below(16)
    if kind < 3:
        way = dice.one_of(ways) if dice.below(12) else (2, 0, -2)
        many = len(plain_doors(sizes, tuple(way))) + (dice.below(12) == 0)
        signs = dice.one_of(["ab.?", "?", "ab????", "aab.", "...?????"])
        return "eye", (name if dice.below(12) else "Bad", way, dice.text(signs, many))
    if kind < 4:
        return "shut", (name,)
    if kind < 6:
        return "repaint", (name, dice.below(6) - (dice.below(9) == 0), dice.one_of(["a", "b", ".", "?", "", "ab"]))
    if kind < 7:
        return "finish", ([dice.below(9) - 4 for turn in range(dice.below(4))],)
    if kind < 10:
        return "chip", (place,)
    return dice.one_of(["drop", "keep", "free", "free", "keep", "drop"]), (place,)
