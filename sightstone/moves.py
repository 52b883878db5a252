"""Moves: the parts of places put in another order, and some counted from the other end."""

from sightstone.places import doors_of

ORDERS = ((0, 1, 2), (0, 2, 1), (1, 0, 2), (1, 2, 0), (2, 0, 1), (2, 1, 0))


def all_moves():
    """Answer the 48 moves, rising."""
    return [(order, (x, y, z)) for order in ORDERS for x in range(2) for y in range(2) for z in range(2)]


def moved_block(sizes, move):
    """Answer the sizes of the moved block."""
    return tuple(sizes[part] for part in move[0])


def moved_place(sizes, move, place):
    """Answer the moved place."""
    order, turned = move
    return tuple(sizes[part] - 1 - place[part] if turn else place[part] for part, turn in zip(order, turned))


def moved_way(move, way):
    """Answer the moved way."""
    order, turned = move
    return tuple(-way[part] if turn else way[part] for part, turn in zip(order, turned))


def moved_stone(sizes, move, stone):
    """Answer the stone of the moved grains."""
    return sorted([moved_place(sizes, move, grain) for grain in stone])


def moved_look(sizes, move, look):
    """Answer the look along the moved way, with each sign at the door to which its door is moved."""
    way, picture = look
    there = moved_way(move, way)
    signs = {moved_place(sizes, move, door): sign for door, sign in zip(doors_of(sizes, way), picture)}
    return (there, "".join(signs[door] for door in doors_of(moved_block(sizes, move), there)))


def after(one, other):
    """Answer the move that does the one and then the other."""
    order = tuple(one[0][part] for part in other[0])
    turned = tuple((one[1][part] + turn) % 2 for part, turn in zip(other[0], other[1]))
    return (order, turned)


def back_of(move):
    """Answer the move that takes the move back."""
    order, turned = move
    goals = [order.index(part) for part in range(3)]
    return (tuple(goals), tuple(turned[goal] for goal in goals))
