"""Blocks and ways for the tests, made from the document's words without the program."""

from copy import deepcopy
from math import gcd
from time import perf_counter

BLOCKS = [
    (1, 1, 1), (1, 1, 6), (1, 6, 1), (6, 1, 1), (2, 2, 2), (2, 3, 4), (4, 3, 2),
    (3, 1, 5), (5, 2, 1), (1, 4, 3), (6, 2, 3),
]

GREAT = 10 ** 40


def all_triples(least, most):
    numbers = range(least, most + 1)
    return [(x, y, z) for x in numbers for y in numbers for z in numbers]


def is_way(triple):
    # gcd of noughts alone is 0, so they are no way either.
    return max(abs(part) for part in triple) <= 3 and gcd(*triple) == 1


WAYS = [triple for triple in all_triples(-3, 3) if is_way(triple)]

FEW_WAYS = [
    (0, 0, 1), (0, -1, 0), (1, 0, 0), (-1, 0, 0), (1, 1, 0), (1, -1, 1), (-1, -1, -1),
    (2, 1, 0), (0, -2, 1), (-3, 0, 1), (3, -2, 1), (1, 2, -3), (-1, 3, 3), (2, 0, -3),
]


def plain_places(sizes):
    return [(x, y, z) for x in range(sizes[0]) for y in range(sizes[1]) for z in range(sizes[2])]


def walk(sizes, way, place):
    """The line of the place, found step by step: the places behind it, then itself and those beyond."""
    block = set(plain_places(sizes))
    behind = []
    at = minus(place, way)
    while at in block:
        behind.append(at)
        at = minus(at, way)
    beyond = []
    at = place
    while at in block:
        beyond.append(at)
        at = plus(at, way)
    return behind[::-1], beyond


def plus(place, way):
    return (place[0] + way[0], place[1] + way[1], place[2] + way[2])


def minus(place, way):
    return (place[0] - way[0], place[1] - way[1], place[2] - way[2])


def some_stones(sizes):
    """The empty stone, the whole block, single grains and a few patterns."""
    whole = plain_places(sizes)
    stones = [[], whole, whole[:1], whole[-1:], whole[::2], whole[1::3], whole[::-1][::5][::-1]]
    stones.append([place for place in whole if sum(place) % 3 != 1])
    stones.append([place for place in whole if (place[0] * 5 + place[1] * 3 + place[2] * 7) % 4 == 2])
    return stones


def check_plain_tuple(test, value, length=3):
    """A tuple of whole numbers, and nothing that only equals one."""
    test.assertIs(type(value), tuple)
    test.assertEqual(len(value), length)
    for part in value:
        test.assertIs(type(part), int)


def check_stone(test, stone):
    """A rising list of places, none twice."""
    test.assertIs(type(stone), list)
    for place in stone:
        check_plain_tuple(test, place)
    for near, far in zip(stone, stone[1:]):
        test.assertLess(near, far)


def check_own_answer(test, function, *handed):
    """What is handed in stays, and a spoilt answer spoils neither that nor a later answer."""
    before = deepcopy(handed)
    first = function(*handed)
    kept = deepcopy(first)
    test.assertEqual(handed, before)
    test.assertIs(type(first), list)
    first.append("spoilt")
    first.reverse()
    test.assertEqual(handed, before)
    test.assertEqual(function(*handed), kept)
    first.clear()
    test.assertEqual(handed, before)
    test.assertEqual(function(*handed), kept)


def check_handed_stays(test, function, *handed):
    """What is handed in stays, and the same answer is told again."""
    before = deepcopy(handed)
    first = function(*handed)
    test.assertEqual(handed, before)
    test.assertEqual(function(*handed), first)


def check_soon(test, function, *handed):
    """The answer of the function, which comes within a few seconds."""
    start = perf_counter()
    answer = function(*handed)
    test.assertLess(perf_counter() - start, 4, function.__name__)
    return answer
