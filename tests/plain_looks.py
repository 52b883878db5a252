"""Looks for the tests, and what the document says of them: by its words, without the program."""

from functools import lru_cache
from itertools import combinations

from samples import plain_places, walk

LETTERS = "abcdefghijklmnopqrstuvwxyz"
SIGNS = LETTERS + ".?"

EIGHT_WAYS = [
    (1, 0, 0), (0, -1, 0), (0, 0, 1), (-1, 1, 0), (2, 0, -1), (1, -2, 3), (-1, -1, -1), (3, 1, 0),
]


class Dice:
    """Numbers that look thrown, but are the same at each run."""

    def __init__(self, seed):
        self.state = seed * 7919 + 17

    def below(self, many):
        self.state = (self.state * 6364136223846793005 + 1442695040888963407) % 2 ** 64
        return (self.state >> 33) % many

    def one_of(self, things):
        return things[self.below(len(things))]

    def text(self, signs, length):
        return "".join(self.one_of(signs) for spot in range(length))

    def stone(self, sizes, out_of=2):
        return [place for place in plain_places(sizes) if self.below(out_of) != 0]


@lru_cache(maxsize=None)
def plain_line(sizes, way, place):
    """The places behind it, nearest door first, and the whole line."""
    behind, beyond = walk(sizes, way, place)
    return behind, behind + beyond


@lru_cache(maxsize=None)
def plain_doors(sizes, way):
    return [place for place in plain_places(sizes) if not plain_line(sizes, way, place)[0]]


def plain_sign(sizes, way, picture, place):
    return picture[plain_doors(sizes, way).index(plain_line(sizes, way, place)[1][0])]


def plain_sees(sizes, way, stone, grain):
    return not any(place in stone for place in plain_line(sizes, way, grain)[0])


def plain_snapped(sizes, way, stone, paint):
    picture = ""
    for door in plain_doors(sizes, way):
        grains = [place for place in plain_line(sizes, way, door)[1] if place in stone]
        picture += paint[stone.index(grains[0])] if grains else "."
    return picture


def plain_told(sizes, looks, stone, grain):
    """The rows (number of the look, sign) of the looks that see the grain."""
    return [
        (number, plain_sign(sizes, way, picture, grain)) for number, (way, picture) in enumerate(looks)
        if plain_sees(sizes, way, stone, grain)
    ]


def plain_bar(sizes, looks, stone, grain):
    told = plain_told(sizes, looks, stone, grain)
    skies = [number for number, sign in told if sign == "."]
    if skies:
        return (min(skies), min(skies))
    pairs = [
        (i, j) for i, one in told for j, other in told
        if i < j and one in LETTERS and other in LETTERS and one != other
    ]
    return min(pairs) if pairs else None


def plain_barred(sizes, looks, stone):
    bars = [(grain, plain_bar(sizes, looks, stone, grain)) for grain in stone]
    return [(grain, *bar) for grain, bar in bars if bar is not None]


def plain_lettered(sizes, looks, stone):
    """The rows (number of the look, door, grains on its line) of the doors with a letter."""
    return [
        (number, door, [place for place in plain_line(sizes, way, door)[1] if place in stone])
        for number, (way, picture) in enumerate(looks)
        for door, sign in zip(plain_doors(sizes, way), picture) if sign in LETTERS
    ]


def plain_bare(sizes, looks, stone):
    return [(number, door) for number, door, grains in plain_lettered(sizes, looks, stone) if not grains]


def plain_sole(sizes, looks, stone):
    rows = plain_lettered(sizes, looks, stone)
    return [grain for grain in stone if any(grains == [grain] for number, door, grains in rows)]


def plain_shows(sizes, looks, stone):
    return not plain_barred(sizes, looks, stone) and not plain_bare(sizes, looks, stone)


def plain_carve(sizes, looks, stone, picks):
    left, paper = list(stone), []
    while True:
        rows = plain_barred(sizes, looks, left)
        if not rows:
            return left, paper
        pick = picks[len(paper)] if len(paper) < len(picks) else 0
        row = rows[pick % len(rows)]
        paper.append(row)
        left.remove(row[0])


def plain_painted(sizes, looks, stone, free):
    paint = ""
    for grain in stone:
        letters = {sign for number, sign in plain_told(sizes, looks, stone, grain) if sign in LETTERS}
        assert len(letters) <= 1
        paint += letters.pop() if letters else free
    return paint


def all_stones(sizes):
    whole = plain_places(sizes)
    return [list(grains) for many in range(len(whole) + 1) for grains in combinations(whole, many)]


def thrown_looks(dice, sizes, ways, signs):
    """Looks of pictures thrown sign by sign."""
    return [(way, dice.text(signs, len(plain_doors(sizes, way)))) for way in ways]


def snapped_looks(dice, sizes, ways, letters, veils=0):
    """Looks that a stone shows, with about one sign in so many behind a veil."""
    stone = dice.stone(sizes, 3)
    paint = dice.text(letters, len(stone))
    looks = []
    for way in ways:
        picture = plain_snapped(sizes, way, stone, paint)
        looks.append((way, "".join("?" if veils and dice.below(veils) == 0 else sign for sign in picture)))
    return looks


def spoilt(dice, looks, signs):
    """The looks with one sign put anew."""
    at = dice.below(len(looks))
    way, picture = looks[at]
    spot = dice.below(len(picture))
    changed = (way, picture[:spot] + dice.one_of(signs) + picture[spot + 1:])
    return looks[:at] + [changed] + looks[at + 1:]


def many_looks(sizes, ways, seed):
    """Lists of looks of every kind: none, few and up to eight, thrown, shown, nearly shown, veiled."""
    dice = Dice(seed)
    lists = [[]]
    for many in (1, 2, 3, 5, 8):
        some = [dice.one_of(ways) for turn in range(many)]
        lists.append(thrown_looks(dice, sizes, some, "?"))
        lists.append(thrown_looks(dice, sizes, some, "ab.?"))
        lists.append(thrown_looks(dice, sizes, some, "ab???"))
        lists.append(thrown_looks(dice, sizes, some, SIGNS))
        shown = snapped_looks(dice, sizes, some, "ab")
        lists += [shown, spoilt(dice, shown, "ab.?"), snapped_looks(dice, sizes, some, "abc", 3)]
    return lists


def great_looks(seed):
    """Eight looks at the greatest block: nearly shown ones, of which much is carved off."""
    dice = Dice(seed)
    sizes = (6, 6, 6)
    return spoilt(dice, snapped_looks(dice, sizes, EIGHT_WAYS, "abc"), "abc")


def check_arguments(test, function, names):
    """The arguments have the interface's names, in its order."""
    code = function.__code__
    test.assertEqual(list(code.co_varnames[:code.co_argcount]), names)
    test.assertEqual(code.co_kwonlyargcount, 0)
