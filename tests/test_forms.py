"""Point 17: least forms and alike stones; with point 1 for their answers."""

import unittest
from copy import deepcopy
from time import perf_counter

from plain_looks import Dice, all_stones, check_arguments
from plain_moves import HANDED, MIRROR, MOVES, ROUND, STAY, plain_between, plain_block, plain_form, plain_stone
from samples import BLOCKS, check_handed_stays, check_plain_tuple, check_stone, plain_places, some_stones
from sightstone.forms import least_form, move_between


class Interface(unittest.TestCase):
    def test_arguments(self):
        check_arguments(self, least_form, ["sizes", "stone"])
        check_arguments(self, move_between, ["sizes", "stone", "others", "other"])


class LeastForm(unittest.TestCase):
    def test_the_empty_stone_and_the_whole_block(self):
        for sizes in BLOCKS + [(6, 6, 6), (6, 5, 4)]:
            least = tuple(sorted(sizes))
            self.assertEqual(least_form(sizes, []), (least, []))
            self.assertEqual(least_form(sizes, plain_places(sizes)), (least, plain_places(least)))

    def test_written_out(self):
        self.assertEqual(least_form((3, 1, 1), [(2, 0, 0)]), ((1, 1, 3), [(0, 0, 0)]))
        self.assertEqual(least_form((3, 1, 1), [(1, 0, 0)]), ((1, 1, 3), [(0, 0, 1)]))
        self.assertEqual(least_form((1, 4, 1), [(0, 1, 0), (0, 3, 0)]), ((1, 1, 4), [(0, 0, 0), (0, 0, 2)]))
        self.assertEqual(least_form((2, 1, 2), [(1, 0, 0), (1, 0, 1)]), ((1, 2, 2), [(0, 0, 0), (0, 0, 1)]))

    def test_sizes_are_compared_before_stones(self):
        self.assertEqual(least_form((2, 1, 1), [(0, 0, 0), (1, 0, 0)]), ((1, 1, 2), [(0, 0, 0), (0, 0, 1)]))
        self.assertEqual(
            least_form((1, 2, 3), [(0, 0, 0), (0, 0, 1)]), ((1, 2, 3), [(0, 0, 0), (0, 0, 1)]))
        # Here the stone as it is handed in is less than the one in the block of the least sizes.
        self.assertEqual(
            least_form((1, 3, 2), [(0, 0, 0), (0, 0, 1)]), ((1, 2, 3), [(0, 0, 0), (0, 1, 0)]))

    def test_stones_are_compared_as_lists_of_places(self):
        self.assertEqual(
            least_form((1, 1, 4), [(0, 0, 0), (0, 0, 2), (0, 0, 3)]),
            ((1, 1, 4), [(0, 0, 0), (0, 0, 1), (0, 0, 3)]))

    def test_against_the_words(self):
        for sizes in BLOCKS:
            for stone in some_stones(sizes):
                answer = least_form(sizes, stone)
                self.assertIs(type(answer), tuple)
                self.assertEqual(len(answer), 2)
                check_plain_tuple(self, answer[0])
                check_stone(self, answer[1])
                self.assertEqual(answer, plain_form(sizes, stone), (sizes, stone))

    def test_a_stone_and_each_moved_one_have_one_least_form(self):
        for sizes in [(2, 3, 4), (2, 2, 3), (3, 3, 3), (1, 5, 2)]:
            for stone in some_stones(sizes)[4:] + [HANDED if sizes == (3, 3, 3) else []]:
                form = least_form(sizes, stone)
                for move in MOVES:
                    there = plain_block(sizes, move), plain_stone(sizes, move, stone)
                    self.assertEqual(least_form(*there), form)
                    self.assertLessEqual(form, there)
                self.assertEqual(least_form(*form), form)

    def test_as_many_forms_as_counting_tells(self):
        """Counted by the stones that each move of the block onto itself leaves as they are."""
        for sizes, many in [((1, 1, 1), 2), ((2, 2, 1), 6), ((2, 2, 2), 22), ((3, 1, 2), 24), ((1, 6, 1), 36)]:
            forms = []
            for stone in all_stones(sizes):
                form = least_form(sizes, stone)
                if form not in forms:
                    forms.append(form)
            self.assertEqual(len(forms), many, sizes)


class MoveBetween(unittest.TestCase):
    def check_between(self, sizes, stone, others, other):
        answer = move_between(sizes, stone, others, other)
        moves = plain_between(sizes, stone, others, other)
        self.assertEqual(answer, moves[0] if moves else None, (sizes, stone, others, other))
        alike = least_form(sizes, stone) == least_form(others, other)
        self.assertIs(answer is not None, alike, (sizes, stone, others, other))
        return moves

    def test_each_moved_stone(self):
        several = 0
        for sizes in [(2, 3, 4), (2, 2, 3), (3, 3, 3), (1, 5, 2)]:
            for stone in some_stones(sizes):
                for move in MOVES:
                    there = plain_block(sizes, move), plain_stone(sizes, move, stone)
                    moves = self.check_between(sizes, stone, *there)
                    self.assertIn(move, moves)
                    several += len(moves) > 1 and move != moves[0]
        self.assertGreater(several, 200)

    def test_every_two_stones_of_small_blocks(self):
        for sizes, others in [((2, 2, 1), (1, 2, 2)), ((3, 1, 1), (1, 3, 1)), ((2, 2, 1), (2, 2, 1))]:
            for stone in all_stones(sizes):
                for other in all_stones(others):
                    self.check_between(sizes, stone, others, other)

    def test_the_first_of_several(self):
        whole = plain_places((2, 2, 2))
        self.assertEqual(move_between((2, 2, 2), whole, (2, 2, 2), whole), STAY)
        self.assertEqual(move_between((2, 2, 2), [], (2, 2, 2), []), STAY)
        self.assertEqual(move_between((2, 3, 1), [], (1, 2, 3), []), ((2, 0, 1), (0, 0, 0)))
        self.assertEqual(move_between((2, 2, 2), [(0, 0, 0)], (2, 2, 2), [(1, 1, 1)]), ((0, 1, 2), (1, 1, 1)))
        self.assertEqual(move_between((2, 2, 2), [(0, 0, 0)], (2, 2, 2), [(0, 1, 0)]), ((0, 1, 2), (0, 1, 0)))
        self.assertEqual(
            move_between((2, 2, 1), [(0, 0, 0), (0, 1, 0)], (2, 2, 1), [(0, 1, 0), (1, 1, 0)]), ((1, 0, 2), (0, 1, 0)))

    def test_stones_that_are_not_alike_though_sizes_and_counts_are_the_same(self):
        for sizes, stone, other in [
            ((3, 1, 1), [(0, 0, 0)], [(1, 0, 0)]),
            ((3, 1, 1), [(0, 0, 0), (1, 0, 0)], [(0, 0, 0), (2, 0, 0)]),
            ((2, 2, 2), [(0, 0, 0), (0, 0, 1)], [(0, 0, 0), (0, 1, 1)]),
            ((2, 2, 2), [(0, 0, 0), (0, 1, 1)], [(0, 0, 0), (1, 1, 1)]),
            ((1, 2, 3), [(0, 0, 0), (0, 0, 1)], [(0, 0, 0), (0, 1, 0)]),
        ]:
            self.assertIsNone(move_between(sizes, stone, sizes, other))
            self.assertIsNone(move_between(sizes, other, sizes, stone))
            self.assertNotEqual(least_form(sizes, stone), least_form(sizes, other))

    def test_blocks_of_unlike_sizes(self):
        for sizes, others in [((2, 2, 2), (2, 2, 3)), ((1, 1, 4), (1, 2, 2)), ((1, 1, 1), (6, 1, 1))]:
            for stone in ([], [(0, 0, 0)]):
                self.assertIsNone(move_between(sizes, stone, others, stone))
                self.assertIsNone(move_between(others, stone, sizes, stone))
                self.assertNotEqual(least_form(sizes, stone), least_form(others, stone))

    def test_stones_of_unlike_counts(self):
        self.assertIsNone(move_between((2, 2, 2), [], (2, 2, 2), [(0, 0, 0)]))
        self.assertIsNone(move_between((2, 2, 2), [(0, 0, 0)], (2, 2, 2), [(0, 0, 0), (1, 1, 1)]))

    def test_a_mirrored_stone(self):
        mirrored = plain_stone((2, 2, 2), MIRROR, HANDED)
        moves = self.check_between((2, 2, 2), HANDED, (2, 2, 2), mirrored)
        self.assertEqual(least_form((2, 2, 2), HANDED), least_form((2, 2, 2), mirrored))
        # All of them mirror: an odd order or an odd count of turned parts, but not both.
        for order, turned in moves:
            odd = sum(order[a] > order[b] for a, b in [(0, 1), (0, 2), (1, 2)]) % 2
            self.assertEqual((odd + sum(turned)) % 2, 1)

    def test_kinds_of_the_answer(self):
        move = move_between((3, 2, 1), [(2, 0, 0)], (2, 1, 3), [(0, 0, 2)])
        self.assertIs(type(move), tuple)
        self.assertEqual(len(move), 2)
        for part in move:
            check_plain_tuple(self, part)
        self.assertEqual(move, ROUND)


class Answers(unittest.TestCase):
    def test_the_answers_are_the_askers_own(self):
        for stone in ([], [(0, 0, 0), (0, 1, 2)], plain_places((2, 2, 3))):
            kept = list(stone)
            first = least_form((2, 2, 3), stone)
            before = deepcopy(first)
            first[1].append("spoilt")
            self.assertEqual(stone, kept)
            self.assertEqual(least_form((2, 2, 3), stone), before)
            answer = least_form((2, 2, 3), stone)
            stone.clear()
            self.assertEqual(answer, before)

    def test_what_is_handed_in_stays(self):
        stone = [(0, 0, 0), (0, 1, 2)]
        check_handed_stays(self, least_form, (2, 2, 3), stone)
        check_handed_stays(self, move_between, (2, 2, 3), stone, (2, 2, 3), [(1, 0, 2), (1, 1, 0)])
        check_handed_stays(self, move_between, (2, 2, 3), stone, (2, 2, 3), [(1, 0, 2), (1, 1, 1)])
        check_handed_stays(self, move_between, (2, 2, 3), stone, (2, 2, 3), stone)


class GreatBlock(unittest.TestCase):
    def test_each_answers_soon(self):
        sizes = (6, 6, 6)
        whole = plain_places(sizes)
        for stone in (whole, whole[:-1], Dice(400).stone(sizes), Dice(401).stone(sizes, 5)):
            start = perf_counter()
            form = least_form(sizes, stone)
            self.assertLess(perf_counter() - start, 3)
            self.assertEqual(form, plain_form(sizes, stone))
            for other in (plain_stone(sizes, MOVES[47], stone), plain_stone(sizes, MOVES[30], stone), stone[1:]):
                start = perf_counter()
                answer = move_between(sizes, stone, sizes, other)
                self.assertLess(perf_counter() - start, 3)
                moves = plain_between(sizes, stone, sizes, other)
                self.assertEqual(answer, moves[0] if moves else None)


if __name__ == "__main__":
    unittest.main()
