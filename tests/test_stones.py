"""Point 5: stones and what an eye sees of them; with point 1 for their answers."""

import unittest
from copy import deepcopy

from samples import (
    BLOCKS, FEW_WAYS, GREAT, check_own_answer, check_stone, plain_places, some_stones, walk,
)
from sightstone.errors import BadStone
from sightstone.stones import (
    checked_stone, first_on, joined, lacking, lies_within, seen_from, shared,
)


def mixed(places):
    """Every other place as a list."""
    return [list(place) if at % 2 else place for at, place in enumerate(places)]


class CheckedStone(unittest.TestCase):
    def test_the_empty_stone(self):
        self.assertEqual(checked_stone((1, 1, 1), []), [])
        self.assertEqual(checked_stone((6, 6, 6), []), [])

    def test_the_whole_block_in_any_order(self):
        for sizes in BLOCKS + [(6, 6, 6)]:
            whole = plain_places(sizes)
            half = len(whole) // 2
            for places in (whole, whole[::-1], whole[half:] + whole[:half], whole[1::2] + whole[::2]):
                for rows in (places, mixed(places), [list(place) for place in places]):
                    answer = checked_stone(sizes, rows)
                    check_stone(self, answer)
                    self.assertEqual(answer, whole)

    def test_written_out(self):
        rows = [[1, 0, 2], (0, 2, 0), (1, 0, 0), [0, 1, 2]]
        answer = checked_stone((2, 3, 3), rows)
        check_stone(self, answer)
        self.assertEqual(answer, [(0, 1, 2), (0, 2, 0), (1, 0, 0), (1, 0, 2)])

    def test_a_place_outside_is_refused(self):
        for at, size in enumerate((2, 3, 4)):
            for number in (-1, size, size + 1, 100, -GREAT, GREAT):
                place = [1, 1, 1]
                place[at] = number
                for handed in (place, tuple(place)):
                    for rows in ([handed], [(0, 0, 0), handed], [handed, [0, 0, 0]]):
                        with self.subTest(rows), self.assertRaises(BadStone):
                            checked_stone((2, 3, 4), rows)

    def test_a_place_twice_is_refused(self):
        for one in ((1, 0, 2), [1, 0, 2]):
            for other in ((1, 0, 2), [1, 0, 2]):
                for rows in ([one, other], [one, (0, 0, 0), other], [[0, 0, 0], one, (1, 1, 1), other]):
                    with self.subTest(rows), self.assertRaises(BadStone):
                        checked_stone((2, 3, 3), rows)
        whole = plain_places((2, 2, 2))
        with self.assertRaises(BadStone):
            checked_stone((2, 2, 2), whole + whole)

    def test_places_with_the_same_numbers_in_another_order_are_good(self):
        self.assertEqual(
            checked_stone((3, 3, 3), [(2, 1, 0), (0, 1, 2), (1, 0, 2)]), [(0, 1, 2), (1, 0, 2), (2, 1, 0)])

    def test_what_is_handed_in_stays_and_is_not_held(self):
        rows = [[1, 1, 1], (0, 0, 0), [0, 1, 0]]
        before = deepcopy(rows)
        answer = checked_stone((2, 2, 2), rows)
        self.assertEqual(rows, before)
        rows[0][0] = 0
        rows.pop()
        self.assertEqual(answer, [(0, 0, 0), (0, 1, 0), (1, 1, 1)])

    def test_refused_rows_stay(self):
        for rows in ([[1, 1, 1], (0, 0, 0), [1, 1, 1]], [[1, 1, 1], [0, 0, 2], (0, 0, 0)]):
            before = deepcopy(rows)
            with self.assertRaises(BadStone):
                checked_stone((2, 2, 2), rows)
            self.assertEqual(rows, before)

    def test_the_answer_is_the_askers_own(self):
        check_own_answer(self, checked_stone, (2, 2, 2), [(0, 0, 1), (1, 0, 0)])
        check_own_answer(self, checked_stone, (2, 2, 2), [])


class Seen(unittest.TestCase):
    def test_each_sample_stone_along_each_sample_way(self):
        for sizes in BLOCKS + [(6, 6, 6)]:
            for way in FEW_WAYS:
                for stone in some_stones(sizes):
                    self.check_seen(sizes, way, stone)

    def check_seen(self, sizes, way, stone):
        grains = set(stone)
        seen = []
        for place in plain_places(sizes):
            behind, beyond = walk(sizes, way, place)
            if place in grains and not grains.intersection(behind):
                seen.append(place)
            if not behind:
                on_line = [other for other in beyond if other in grains]
                first = on_line[0] if on_line else None
                self.assertEqual(first_on(sizes, way, stone, place), first, (sizes, way, stone, place))
        answer = seen_from(sizes, way, stone)
        check_stone(self, answer)
        self.assertEqual(answer, seen, (sizes, way, stone))

    def test_written_out_first_on(self):
        stone = [(1, 0, 0), (3, 0, 0)]
        self.assertEqual(first_on((5, 1, 1), (1, 0, 0), stone, (0, 0, 0)), (1, 0, 0))
        self.assertEqual(first_on((5, 1, 1), (-1, 0, 0), stone, (4, 0, 0)), (3, 0, 0))
        self.assertEqual(first_on((5, 1, 1), (2, 1, 0), stone, (3, 0, 0)), (3, 0, 0))
        self.assertIsNone(first_on((5, 1, 1), (0, 1, 0), stone, (2, 0, 0)))
        self.assertIsNone(first_on((5, 1, 1), (1, 0, 0), [], (0, 0, 0)))

    def test_written_out_seen_from(self):
        stone = [(0, 0, 0), (0, 1, 0), (1, 1, 0), (2, 0, 0), (2, 1, 0)]
        self.assertEqual(seen_from((3, 2, 1), (1, 0, 0), stone), [(0, 0, 0), (0, 1, 0)])
        self.assertEqual(seen_from((3, 2, 1), (-1, 0, 0), stone), [(2, 0, 0), (2, 1, 0)])
        self.assertEqual(seen_from((3, 2, 1), (0, -1, 0), stone), [(0, 1, 0), (1, 1, 0), (2, 1, 0)])
        self.assertEqual(seen_from((3, 2, 1), (0, 0, 1), stone), stone)
        self.assertEqual(seen_from((3, 2, 1), (2, 1, 0), stone), [(0, 0, 0), (0, 1, 0), (1, 1, 0), (2, 0, 0)])
        self.assertEqual(seen_from((3, 2, 1), (2, 1, 0), []), [])

    def test_a_grain_between_whole_steps_hides_nothing(self):
        self.assertEqual(
            seen_from((5, 1, 3), (2, 0, 1), [(0, 0, 0), (1, 0, 0), (4, 0, 2)]), [(0, 0, 0), (1, 0, 0)])
        self.assertEqual(
            seen_from((5, 1, 3), (2, 0, 1), [(1, 0, 0), (4, 0, 2)]), [(1, 0, 0), (4, 0, 2)])

    def test_the_answer_is_the_askers_own(self):
        stone = [(0, 0, 0), (1, 0, 1)]
        check_own_answer(self, seen_from, (2, 2, 2), (0, 1, 0), stone)
        check_own_answer(self, seen_from, (2, 2, 2), (0, 1, 0), [])

    def test_first_on_leaves_the_stone_as_it_was(self):
        stone = [(0, 0, 0), (1, 0, 1)]
        first_on((2, 2, 2), (0, 1, 0), stone, (1, 0, 1))
        self.assertEqual(stone, [(0, 0, 0), (1, 0, 1)])


class Together(unittest.TestCase):
    def test_each_pair_of_sample_stones(self):
        for sizes in [(1, 1, 1), (2, 3, 4), (6, 6, 6)]:
            whole = plain_places(sizes)
            for one in some_stones(sizes):
                for other in some_stones(sizes):
                    self.check_pair(whole, one, other)

    def check_pair(self, whole, one, other):
        first, second = set(one), set(other)
        for answer, wanted in (
            (joined(one, other), [place for place in whole if place in first or place in second]),
            (shared(one, other), [place for place in whole if place in first and place in second]),
            (lacking(one, other), [place for place in whole if place in first and place not in second]),
        ):
            check_stone(self, answer)
            self.assertEqual(answer, wanted)
        self.assertIs(lies_within(one, other), all(place in second for place in one))

    def test_written_out(self):
        one = [(0, 0, 0), (0, 2, 0), (1, 0, 0)]
        other = [(0, 0, 1), (0, 2, 0), (2, 0, 0)]
        self.assertEqual(joined(one, other), [(0, 0, 0), (0, 0, 1), (0, 2, 0), (1, 0, 0), (2, 0, 0)])
        self.assertEqual(shared(one, other), [(0, 2, 0)])
        self.assertEqual(lacking(one, other), [(0, 0, 0), (1, 0, 0)])
        self.assertEqual(lacking(other, one), [(0, 0, 1), (2, 0, 0)])
        self.assertIs(lies_within(one, other), False)
        self.assertIs(lies_within([(0, 2, 0)], other), True)
        self.assertIs(lies_within(other, [(0, 2, 0)]), False)
        self.assertIs(lies_within(one, one), True)
        self.assertIs(lies_within([], one), True)
        self.assertIs(lies_within(one, []), False)
        self.assertIs(lies_within([], []), True)

    def test_the_answers_are_the_askers_own(self):
        one = [(0, 0, 0), (0, 2, 0)]
        for function in (joined, shared, lacking):
            for other in ([], [(0, 2, 0), (1, 0, 0)], [(0, 0, 0), (0, 2, 0)]):
                check_own_answer(self, function, one, other)
                check_own_answer(self, function, other, one)
            check_own_answer(self, function, one, one)

    def test_lies_within_leaves_the_stones_as_they_were(self):
        one, other = [(0, 2, 0)], [(0, 0, 0), (0, 2, 0)]
        lies_within(one, other)
        self.assertEqual((one, other), ([(0, 2, 0)], [(0, 0, 0), (0, 2, 0)]))


if __name__ == "__main__":
    unittest.main()
