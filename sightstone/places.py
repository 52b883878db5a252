"""Blocks, ways, and the lines of a block along a way."""

from sightstone.errors import BadBlock, BadDirection

LEAST_SIZE = 1
MOST_SIZE = 6
MOST_STEP = 3


def checked_block(sizes):
    """Answer the tuple of three good sizes, or raise BadBlock."""
    if len(sizes) != 3:
        raise BadBlock("a block has three sizes")
    if not all(LEAST_SIZE <= size <= MOST_SIZE for size in sizes):
        raise BadBlock("a size is a whole number from 1 to 6")
    return tuple(sizes)


def checked_direction(way):
    """Answer the tuple of a good way, or raise BadDirection."""
    if len(way) != 3:
        raise BadDirection("a way has three numbers")
    if not all(-MOST_STEP <= step <= MOST_STEP for step in way):
        raise BadDirection("a number of a way is from -3 to 3")
    # Every number goes into nought, so this refuses the way of noughts alone, too.
    if goes_into_all(2, way) or goes_into_all(3, way):
        raise BadDirection("a way is not all noughts, and no number above 1 goes into all of it")
    return tuple(way)


def goes_into_all(number, parts):
    """Tell whether each of the parts is a multiple of the number."""
    return all(part % number == 0 for part in parts)


def places_of(sizes):
    """Answer all places of the block, rising."""
    wide, deep, high = sizes
    return [(x, y, z) for x in range(wide) for y in range(deep) for z in range(high)]


def inside(sizes, place):
    """Tell whether the place is one of the block's."""
    return all(0 <= part < size for size, part in zip(sizes, place))


def stepped(place, way, many):
    """Answer the place so many steps along the way, in a block or not."""
    return tuple(part + many * step for part, step in zip(place, way))


def hides(way, near, far):
    """Tell whether one step or more along the way leads from near to far."""
    many = steps_towards(way, near, far)
    return many >= 1 and stepped(near, way, many) == far


def steps_towards(way, near, far):
    """Answer the only count of steps that could lead from near to far."""
    # A part of the way that is not nought settles the count, so great distances need no walk.
    counts = [(goal - start) // step for step, start, goal in zip(way, near, far) if step != 0]
    return counts[0]


def depth_of(sizes, way, place):
    """Count the steps to the place from the door of its line."""
    # A block is bounded part by part, so the part with the least room behind it ends the line.
    return min([room_behind(size, step, part) for size, step, part in zip(sizes, way, place) if step != 0])


def room_behind(size, step, part):
    """Count the steps back that one part of a place can take within its size."""
    if step > 0:
        return part // step
    return (size - 1 - part) // -step


def door_of(sizes, way, place):
    """Answer the door of the place's line."""
    return stepped(place, way, -depth_of(sizes, way, place))


def doors_of(sizes, way):
    """Answer the doors of all lines along the way, rising."""
    return [place for place in places_of(sizes) if depth_of(sizes, way, place) == 0]


def line_of(sizes, way, door):
    """Answer the places of the door's line, from the door on."""
    line = []
    place = door
    while inside(sizes, place):
        line.append(place)
        place = stepped(place, way, 1)
    return line
