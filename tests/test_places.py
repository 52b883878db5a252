"""Points 2, 3 and 4: blocks, ways, lines; with point 1 for their answers."""

import unittest

from samples import (
    BLOCKS, FEW_WAYS, GREAT, WAYS, all_triples, check_own_answer, check_plain_tuple, check_stone,
    is_way, plain_places, walk,
)
from sightstone.errors import BadBlock, BadDirection
from sightstone.places import (
    checked_block, checked_direction, depth_of, door_of, doors_of, hides, inside, line_of, places_of,
    stepped,
)


class CheckedBlock(unittest.TestCase):
    def test_good_sizes_are_answered_as_a_tuple(self):
        for sizes in all_triples(1, 6):
            for handed in (list(sizes), sizes):
                answer = checked_block(handed)
                check_plain_tuple(self, answer)
                self.assertEqual(answer, sizes)

    def test_other_lengths_are_refused(self):
        for length in (0, 1, 2, 4, 5):
            for row in ([2] * length, (2,) * length):
                with self.subTest(row), self.assertRaises(BadBlock):
                    checked_block(row)

    def test_sizes_beyond_the_limits_are_refused_at_each_place(self):
        for size in (0, 7, 8, -1, -6, GREAT, -GREAT):
            for at in range(3):
                row = [1, 6, 3]
                row[at] = size
                for handed in (row, tuple(row)):
                    with self.subTest(handed), self.assertRaises(BadBlock):
                        checked_block(handed)

    def test_the_list_handed_in_stays_and_is_not_held(self):
        row = [1, 6, 2]
        answer = checked_block(row)
        self.assertEqual(row, [1, 6, 2])
        row[0] = 5
        self.assertEqual(answer, (1, 6, 2))

    def test_a_refused_list_stays(self):
        row = [7, 1, 2]
        with self.assertRaises(BadBlock):
            checked_block(row)
        self.assertEqual(row, [7, 1, 2])


class Places(unittest.TestCase):
    def test_written_out(self):
        self.assertEqual(places_of((1, 1, 1)), [(0, 0, 0)])
        self.assertEqual(places_of((1, 2, 3)), [
            (0, 0, 0), (0, 0, 1), (0, 0, 2), (0, 1, 0), (0, 1, 1), (0, 1, 2),
        ])
        self.assertEqual(places_of((3, 1, 2)), [
            (0, 0, 0), (0, 0, 1), (1, 0, 0), (1, 0, 1), (2, 0, 0), (2, 0, 1),
        ])

    def test_all_blocks_have_all_their_places_rising(self):
        for sizes in all_triples(1, 6):
            answer = places_of(sizes)
            self.assertEqual(answer, plain_places(sizes))
            self.assertEqual(len(answer), sizes[0] * sizes[1] * sizes[2])
        check_stone(self, places_of((6, 6, 6)))
        check_stone(self, places_of((2, 5, 3)))

    def test_the_answer_is_the_askers_own(self):
        check_own_answer(self, places_of, (2, 3, 1))


class Inside(unittest.TestCase):
    def test_every_triple_round_the_blocks(self):
        for sizes in BLOCKS:
            block = set(plain_places(sizes))
            for place in all_triples(-2, 7):
                self.assertIs(inside(sizes, place), place in block, (sizes, place))

    def test_great_numbers(self):
        for at in range(3):
            for number in (GREAT, -GREAT):
                place = [0, 0, 0]
                place[at] = number
                self.assertIs(inside((6, 6, 6), tuple(place)), False)
        self.assertIs(inside((2, 2, 2), (GREAT, -GREAT, GREAT)), False)


class CheckedDirection(unittest.TestCase):
    def test_every_triple_from_minus_five_to_five(self):
        good = 0
        for triple in all_triples(-5, 5):
            for handed in (triple, list(triple)):
                if is_way(triple):
                    good += 1
                    answer = checked_direction(handed)
                    check_plain_tuple(self, answer)
                    self.assertEqual(answer, triple)
                else:
                    with self.subTest(handed), self.assertRaises(BadDirection):
                        checked_direction(handed)
        self.assertEqual(good, 2 * len(WAYS))

    def test_written_out_refusals(self):
        for row in [(0, 0, 0), (4, 1, 0), (-4, 1, 0), (1, 0, 4), (1, -4, 1), (2, 0, -2), (0, 3, 0),
                    (0, 0, -2), (2, 2, 2), (-2, 0, 0), (3, -3, 0), (-3, -3, -3), (0, 0, 3)]:
            for handed in (row, list(row)):
                with self.subTest(handed), self.assertRaises(BadDirection):
                    checked_direction(handed)

    def test_written_out_ways(self):
        for row in [(1, 0, 0), (0, 0, -1), (3, 2, 0), (-3, 2, 0), (2, 3, 2), (3, 3, -1), (-3, 1, 3), (2, 2, -3)]:
            self.assertEqual(checked_direction(list(row)), row)

    def test_other_lengths_are_refused(self):
        for row in [(), (1,), (1, 0), (1, 0, 0, 0), (0, 0, 0, 1), (1, 1, 1, 1, 1)]:
            for handed in (row, list(row)):
                with self.subTest(handed), self.assertRaises(BadDirection):
                    checked_direction(handed)

    def test_great_numbers_are_refused(self):
        for number in (GREAT, -GREAT, GREAT + 1):
            for at in range(3):
                row = [1, 1, 1]
                row[at] = number
                with self.subTest(row), self.assertRaises(BadDirection):
                    checked_direction(row)

    def test_the_list_handed_in_stays_and_is_not_held(self):
        row = [0, -1, 2]
        answer = checked_direction(row)
        self.assertEqual(row, [0, -1, 2])
        row[1] = 3
        self.assertEqual(answer, (0, -1, 2))


class Stepped(unittest.TestCase):
    def test_written_out(self):
        self.assertEqual(stepped((0, 0, 0), (1, 0, -1), 0), (0, 0, 0))
        self.assertEqual(stepped((1, 2, 3), (1, -2, 3), 1), (2, 0, 6))
        self.assertEqual(stepped((1, 2, 3), (1, -2, 3), 2), (3, -2, 9))
        self.assertEqual(stepped((1, 2, 3), (1, -2, 3), -1), (0, 4, 0))
        self.assertEqual(stepped((1, 2, 3), (0, -2, 3), -4), (1, 10, -9))

    def test_far_outside_and_great(self):
        self.assertEqual(stepped((-100, 50, 7), (3, 1, 0), 10), (-70, 60, 7))
        self.assertEqual(
            stepped((GREAT, 0, -GREAT), (-1, 2, 3), GREAT), (0, 2 * GREAT, 2 * GREAT))
        self.assertEqual(stepped((0, 0, 1), (1, 0, -3), -GREAT), (-GREAT, 0, 1 + 3 * GREAT))

    def test_the_answer_is_a_tuple_of_whole_numbers(self):
        for many in (-3, 0, 1, GREAT):
            check_plain_tuple(self, stepped((5, 0, 2), (-1, 0, 2), many))

    def test_steps_add_up(self):
        for way in FEW_WAYS:
            for one in (-4, -1, 0, 3):
                for other in (-2, 0, 5):
                    there = stepped(stepped((1, 2, 3), way, one), way, other)
                    self.assertEqual(there, stepped((1, 2, 3), way, one + other))


class Hides(unittest.TestCase):
    def test_every_way_and_every_place_round_one(self):
        near = (1, -1, 2)
        for way in WAYS:
            beyond = {(1 + way[0] * n, -1 + way[1] * n, 2 + way[2] * n) for n in range(1, 9)}
            for gap in all_triples(-4, 4):
                far = (1 + gap[0], -1 + gap[1], 2 + gap[2])
                self.assertIs(hides(way, near, far), far in beyond, (way, near, far))

    def test_a_place_hides_neither_itself_nor_one_behind_it(self):
        for way in WAYS:
            for near in [(0, 0, 0), (2, 5, 1), (-7, 30, -1), (GREAT, -GREAT, 3)]:
                self.assertIs(hides(way, near, near), False)
                for many in (1, 2, 9, GREAT):
                    far = tuple(part + many * step for part, step in zip(near, way))
                    self.assertIs(hides(way, near, far), True)
                    self.assertIs(hides(way, far, near), False)

    def test_beside_the_line_and_between_whole_steps(self):
        self.assertIs(hides((2, 0, 1), (0, 0, 0), (1, 0, 0)), False)
        self.assertIs(hides((2, 0, 1), (0, 0, 0), (4, 0, 1)), False)
        self.assertIs(hides((2, 0, 1), (0, 0, 0), (4, 1, 2)), False)
        self.assertIs(hides((0, 3, 1), (0, 0, 0), (0, 4, 1)), False)
        self.assertIs(hides((0, 3, 1), (0, 0, 0), (1, 3, 1)), False)
        self.assertIs(hides((1, 0, 0), (0, 0, 0), (1, 0, GREAT)), False)

    def test_great_numbers(self):
        near = (-GREAT, 5, GREAT)
        far = (GREAT, 5, -5 * GREAT)
        self.assertIs(hides((1, 0, -3), near, far), True)
        self.assertIs(hides((-1, 0, 3), near, far), False)
        self.assertIs(hides((1, 0, -3), near, (GREAT, 5, -5 * GREAT + 1)), False)
        self.assertIs(hides((1, 0, -3), near, (GREAT, 6, -5 * GREAT)), False)
        self.assertIs(hides((1, 0, -3), near, (GREAT + 1, 5, -5 * GREAT)), False)


class Lines(unittest.TestCase):
    def test_every_place_of_every_sample_block_along_every_way(self):
        for sizes in BLOCKS:
            for way in WAYS:
                self.check_lines(sizes, way)

    def test_the_greatest_block(self):
        for way in FEW_WAYS:
            self.check_lines((6, 6, 6), way)

    def check_lines(self, sizes, way):
        found = []
        for place in plain_places(sizes):
            behind, beyond = walk(sizes, way, place)
            line = behind + beyond
            self.assertEqual(door_of(sizes, way, place), line[0], (sizes, way, place))
            self.assertEqual(depth_of(sizes, way, place), len(behind), (sizes, way, place))
            if not behind:
                found.append(place)
                self.assertEqual(line_of(sizes, way, place), line, (sizes, way, place))
        self.assertEqual(doors_of(sizes, way), found, (sizes, way))

    def test_lines_have_each_place_once(self):
        for sizes in BLOCKS + [(6, 6, 6)]:
            for way in FEW_WAYS:
                doors = doors_of(sizes, way)
                check_stone(self, doors)
                met = [place for door in doors for place in line_of(sizes, way, door)]
                self.assertEqual(sorted(met), plain_places(sizes))

    def test_written_out_doors(self):
        self.assertEqual(doors_of((3, 2, 2), (-1, 0, 0)), [(2, 0, 0), (2, 0, 1), (2, 1, 0), (2, 1, 1)])
        self.assertEqual(doors_of((2, 2, 1), (1, 1, 0)), [(0, 0, 0), (0, 1, 0), (1, 0, 0)])
        self.assertEqual(doors_of((4, 2, 1), (2, -1, 0)), [
            (0, 0, 0), (0, 1, 0), (1, 0, 0), (1, 1, 0), (2, 1, 0), (3, 1, 0),
        ])
        self.assertEqual(doors_of((1, 2, 2), (3, 0, 1)), plain_places((1, 2, 2)))

    def test_written_out_lines(self):
        self.assertEqual(line_of((4, 2, 1), (2, -1, 0), (0, 1, 0)), [(0, 1, 0), (2, 0, 0)])
        self.assertEqual(line_of((6, 1, 1), (-3, 0, 1), (5, 0, 0)), [(5, 0, 0)])
        self.assertEqual(line_of((1, 1, 6), (0, 0, -1), (0, 0, 5)), [(0, 0, n) for n in (5, 4, 3, 2, 1, 0)])
        self.assertEqual(line_of((6, 6, 3), (-3, 2, 1), (5, 0, 0)), [(5, 0, 0), (2, 2, 1)])

    def test_written_out_depths(self):
        self.assertEqual(depth_of((6, 6, 6), (1, 1, 1), (5, 3, 4)), 3)
        self.assertEqual(door_of((6, 6, 6), (1, 1, 1), (5, 3, 4)), (2, 0, 1))
        self.assertEqual(depth_of((6, 6, 6), (-2, 0, 1), (0, 0, 5)), 2)
        self.assertEqual(door_of((6, 6, 6), (-2, 0, 1), (0, 0, 5)), (4, 0, 3))
        self.assertEqual(depth_of((2, 6, 3), (0, -3, -1), (1, 0, 0)), 1)
        self.assertEqual(door_of((2, 6, 3), (0, -3, -1), (1, 0, 0)), (1, 3, 1))

    def test_kinds_of_the_answers(self):
        self.assertIs(type(depth_of((6, 6, 6), (1, 0, 0), (1, 0, 0))), int)
        self.assertIs(type(depth_of((6, 6, 6), (1, 0, 0), (0, 0, 0))), int)
        check_plain_tuple(self, door_of((6, 6, 6), (1, -2, 0), (3, 0, 0)))
        for place in line_of((6, 6, 6), (1, -2, 0), (0, 5, 0)):
            check_plain_tuple(self, place)

    def test_the_answers_are_the_askers_own(self):
        check_own_answer(self, doors_of, (2, 3, 4), (1, -1, 0))
        check_own_answer(self, line_of, (2, 3, 4), (1, -1, 0), (0, 2, 3))


if __name__ == "__main__":
    unittest.main()
