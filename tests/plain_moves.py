"""Moves by the document's words, without the program."""

from itertools import permutations, product

from plain_looks import plain_doors

MOVES = [(order, turned) for order in permutations((0, 1, 2)) for turned in product((0, 1), repeat=3)]

STAY = ((0, 1, 2), (0, 0, 0))

# A turn that carries each part on, and the mirroring of one part.
ROUND = ((1, 2, 0), (0, 0, 0))
MIRROR = ((0, 1, 2), (1, 0, 0))

# No mirroring of this stone is a turned one of it.
HANDED = [(0, 0, 0), (1, 0, 0), (1, 1, 0), (1, 1, 1)]


def plain_block(sizes, move):
    order, turned = move
    return (sizes[order[0]], sizes[order[1]], sizes[order[2]])


def plain_place(sizes, move, place):
    order, turned = move
    parts = []
    for t in range(3):
        part = place[order[t]]
        parts.append(sizes[order[t]] - 1 - part if turned[t] == 1 else part)
    return tuple(parts)


def plain_way(move, way):
    order, turned = move
    return tuple(-way[order[t]] if turned[t] == 1 else way[order[t]] for t in range(3))


def plain_stone(sizes, move, stone):
    return sorted(plain_place(sizes, move, grain) for grain in stone)


def plain_look(sizes, move, look):
    way, picture = look
    there = plain_way(move, way)
    doors = plain_doors(plain_block(sizes, move), there)
    signs = [None] * len(doors)
    for door, sign in zip(plain_doors(sizes, way), picture, strict=True):
        signs[doors.index(plain_place(sizes, move, door))] = sign
    return (there, "".join(signs))


def plain_form(sizes, stone):
    return min((plain_block(sizes, move), plain_stone(sizes, move, stone)) for move in MOVES)


def plain_between(sizes, stone, others, other):
    """All moves that bring the one block and stone onto the other ones."""
    return [
        move for move in MOVES
        if plain_block(sizes, move) == others and plain_stone(sizes, move, stone) == other
    ]
