"""Point 16: moves; points 10 and 11 for moved looks; with point 1 for their answers."""

import unittest
from time import perf_counter

from plain_looks import (
    Dice, EIGHT_WAYS, SIGNS, check_arguments, great_looks, many_looks, plain_carve, plain_doors, plain_told,
    thrown_looks,
)
from plain_moves import (
    MIRROR, MOVES, ROUND, STAY, plain_block, plain_look, plain_place, plain_stone, plain_way,
)
from samples import (
    BLOCKS, FEW_WAYS, WAYS, check_handed_stays, check_own_answer, check_plain_tuple, check_stone, plain_places,
    some_stones,
)
from sightstone.carving import carve, greatest
from sightstone.moves import (
    after, all_moves, back_of, moved_block, moved_look, moved_place, moved_stone, moved_way,
)


def check_move(test, move):
    """A tuple of two tuples of three whole numbers."""
    test.assertIs(type(move), tuple)
    test.assertEqual(len(move), 2)
    for part in move:
        check_plain_tuple(test, part)


class Interface(unittest.TestCase):
    def test_arguments(self):
        check_arguments(self, all_moves, [])
        check_arguments(self, moved_block, ["sizes", "move"])
        check_arguments(self, moved_place, ["sizes", "move", "place"])
        check_arguments(self, moved_way, ["move", "way"])
        check_arguments(self, moved_stone, ["sizes", "move", "stone"])
        check_arguments(self, moved_look, ["sizes", "move", "look"])
        check_arguments(self, after, ["one", "other"])
        check_arguments(self, back_of, ["move"])


class AllMoves(unittest.TestCase):
    def test_forty_eight_rising_and_no_two_the_same(self):
        moves = all_moves()
        self.assertIs(type(moves), list)
        self.assertEqual(len(moves), 48)
        self.assertEqual(moves, MOVES)
        for near, far in zip(moves, moves[1:]):
            self.assertLess(near, far)
        for move in moves:
            check_move(self, move)
            self.assertEqual(sorted(move[0]), [0, 1, 2])
            self.assertLessEqual(set(move[1]), {0, 1})

    def test_written_out(self):
        moves = all_moves()
        self.assertEqual(moves[0], ((0, 1, 2), (0, 0, 0)))
        self.assertEqual(moves[1], ((0, 1, 2), (0, 0, 1)))
        self.assertEqual(moves[7], ((0, 1, 2), (1, 1, 1)))
        self.assertEqual(moves[8], ((0, 2, 1), (0, 0, 0)))
        self.assertEqual(moves[26], ((1, 2, 0), (0, 1, 0)))
        self.assertEqual(moves[47], ((2, 1, 0), (1, 1, 1)))

    def test_the_answer_is_the_askers_own(self):
        check_own_answer(self, all_moves)


class Moved(unittest.TestCase):
    def test_a_block_of_three_unlike_sizes(self):
        blocks = {}
        for move in MOVES:
            answer = moved_block((2, 3, 5), move)
            check_plain_tuple(self, answer)
            self.assertEqual(answer, plain_block((2, 3, 5), move))
            blocks[answer] = blocks.get(answer, 0) + 1
        self.assertEqual(len(blocks), 6)
        self.assertEqual(set(blocks.values()), {8})
        self.assertEqual(moved_block((2, 3, 5), ROUND), (3, 5, 2))
        self.assertEqual(moved_block((2, 3, 5), ((2, 0, 1), (1, 0, 1))), (5, 2, 3))

    def test_written_out_places(self):
        self.assertEqual(moved_place((2, 3, 5), STAY, (1, 2, 3)), (1, 2, 3))
        self.assertEqual(moved_place((2, 3, 5), ROUND, (1, 2, 3)), (2, 3, 1))
        self.assertEqual(moved_place((2, 3, 5), MIRROR, (1, 2, 3)), (0, 2, 3))
        self.assertEqual(moved_place((2, 3, 5), ((2, 0, 1), (1, 0, 0)), (1, 2, 3)), (1, 1, 2))
        self.assertEqual(moved_place((2, 3, 5), ((2, 0, 1), (0, 1, 0)), (1, 2, 3)), (3, 0, 2))
        self.assertEqual(moved_place((2, 3, 5), ((2, 0, 1), (1, 1, 1)), (1, 2, 3)), (1, 0, 0))

    def test_all_moves_on_all_places(self):
        for sizes in BLOCKS:
            whole = plain_places(sizes)
            for move in MOVES:
                answers = [moved_place(sizes, move, place) for place in whole]
                self.assertEqual(answers, [plain_place(sizes, move, place) for place in whole])
                self.assertEqual(sorted(answers), plain_places(moved_block(sizes, move)))
        check_plain_tuple(self, moved_place((2, 3, 5), MOVES[29], (1, 2, 3)))

    def test_all_moves_on_all_ways(self):
        for move in MOVES:
            answers = [moved_way(move, way) for way in WAYS]
            self.assertEqual(answers, [plain_way(move, way) for way in WAYS])
            self.assertEqual(sorted(answers), sorted(WAYS))
        check_plain_tuple(self, moved_way(MOVES[47], (0, 0, 1)))
        self.assertEqual(moved_way(((2, 0, 1), (1, 0, 1)), (1, -2, 3)), (-3, 1, 2))
        self.assertEqual(moved_way(MIRROR, (0, 1, 0)), (0, 1, 0))

    def test_a_step_along_the_way_is_moved_to_one_along_the_moved_way(self):
        for move in MOVES:
            for way in FEW_WAYS:
                near, far = (2, 2, 2), tuple(2 + part for part in way)
                there, goal = [moved_place((6, 6, 6), move, place) for place in (near, far)]
                self.assertEqual(tuple(b - a for a, b in zip(there, goal)), moved_way(move, way))

    def test_a_moved_stone_is_rising(self):
        for sizes in [(1, 1, 1), (2, 3, 4), (3, 1, 5), (2, 2, 2)]:
            for stone in some_stones(sizes):
                for move in MOVES:
                    answer = moved_stone(sizes, move, stone)
                    check_stone(self, answer)
                    self.assertEqual(answer, plain_stone(sizes, move, stone))
        self.assertEqual(moved_stone((3, 2, 1), MIRROR, [(0, 0, 0), (0, 1, 0), (1, 0, 0)]), [
            (1, 0, 0), (2, 0, 0), (2, 1, 0),
        ])


class MovedLook(unittest.TestCase):
    def test_written_out(self):
        look = ((1, 0, 0), "abcd")
        self.assertEqual(moved_look((3, 2, 2), STAY, look), look)
        self.assertEqual(moved_look((3, 2, 2), MIRROR, look), ((-1, 0, 0), "abcd"))
        self.assertEqual(moved_look((3, 2, 2), ((0, 1, 2), (0, 1, 0)), look), ((1, 0, 0), "cdab"))
        self.assertEqual(moved_look((3, 2, 2), ((0, 2, 1), (0, 0, 0)), look), ((1, 0, 0), "acbd"))
        self.assertEqual(moved_look((3, 2, 2), ((1, 2, 0), (1, 1, 1)), look), ((0, 0, -1), "dcba"))

    def test_against_the_words_along_every_way(self):
        dice = Dice(300)
        for at, way in enumerate(WAYS):
            sizes = BLOCKS[at % len(BLOCKS)]
            look = thrown_looks(dice, sizes, [way], SIGNS)[0]
            for move in MOVES[at % 5::5]:
                answer = moved_look(sizes, move, look)
                self.assertIs(type(answer), tuple)
                check_plain_tuple(self, answer[0])
                self.assertIs(type(answer[1]), str)
                self.assertEqual(answer, plain_look(sizes, move, look), (sizes, move, look))

    def test_each_moved_grain_is_told_the_sign_that_it_was_told(self):
        dice = Dice(310)
        for sizes in [(2, 3, 4), (3, 1, 2)]:
            for move in MOVES:
                looks = thrown_looks(dice, sizes, [dice.one_of(FEW_WAYS) for turn in range(5)], SIGNS)
                there = [moved_look(sizes, move, look) for look in looks]
                stone = dice.stone(sizes)
                block, moved = plain_block(sizes, move), plain_stone(sizes, move, stone)
                for grain in stone:
                    told = plain_told(block, there, moved, plain_place(sizes, move, grain))
                    self.assertEqual(told, plain_told(sizes, looks, stone, grain))

    def test_carving_of_the_moved_looks_leaves_the_moved_stone(self):
        carved = 0
        for seed, sizes in enumerate([(2, 3, 4), (2, 2, 2), (3, 1, 4)]):
            for at, looks in enumerate(many_looks(sizes, FEW_WAYS, 320 + seed)):
                stone = some_stones(sizes)[at % 9]
                left = plain_carve(sizes, looks, stone, [])[0]
                whole = plain_carve(sizes, looks, plain_places(sizes), [])[0]
                carved += len(whole) < len(plain_places(sizes))
                for move in MOVES[at % 7::7]:
                    block = moved_block(sizes, move)
                    there = [moved_look(sizes, move, look) for look in looks]
                    for picks in ([], [-1] * 100):
                        answer = carve(block, there, moved_stone(sizes, move, stone), picks)[0]
                        self.assertEqual(answer, plain_stone(sizes, move, left))
                    self.assertEqual(greatest(block, there), plain_stone(sizes, move, whole))
        self.assertGreater(carved, 50)


class AfterAndBack(unittest.TestCase):
    def test_after_in_the_told_order(self):
        sizes = (2, 3, 5)
        for one in MOVES:
            for other in MOVES:
                move = after(one, other)
                check_move(self, move)
                self.assertIn(move, MOVES)
                there = plain_block(sizes, one)
                self.assertEqual(plain_block(sizes, move), plain_block(there, other))
                for place in [(0, 0, 0), (1, 0, 3), (0, 2, 4), (1, 1, 0)]:
                    goal = plain_place(there, other, plain_place(sizes, one, place))
                    self.assertEqual(plain_place(sizes, move, place), goal, (one, other))

    def test_moves_that_do_not_give_the_same_in_the_other_order(self):
        self.assertEqual(after(ROUND, MIRROR), ((1, 2, 0), (1, 0, 0)))
        self.assertEqual(after(MIRROR, ROUND), ((1, 2, 0), (0, 0, 1)))
        unlike = [(one, other) for one in MOVES for other in MOVES if after(one, other) != after(other, one)]
        self.assertGreater(len(unlike), 1000)

    def test_a_move_and_its_back(self):
        unlike = 0
        for move in MOVES:
            back = back_of(move)
            check_move(self, back)
            self.assertIn(back, MOVES)
            self.assertEqual(after(move, back), STAY)
            self.assertEqual(after(back, move), STAY)
            self.assertEqual(back_of(back), move)
            unlike += back != move
        self.assertEqual(back_of(ROUND), ((2, 0, 1), (0, 0, 0)))
        self.assertEqual(back_of(((1, 2, 0), (1, 0, 0))), ((2, 0, 1), (0, 1, 0)))
        self.assertGreater(unlike, 20)

    def test_each_thing_is_brought_back(self):
        dice = Dice(330)
        for sizes in [(2, 3, 4), (5, 2, 1)]:
            for move in MOVES:
                back, block = back_of(move), moved_block(sizes, move)
                self.assertEqual(moved_block(block, back), sizes)
                for place in plain_places(sizes):
                    self.assertEqual(moved_place(block, back, moved_place(sizes, move, place)), place)
                for look in thrown_looks(dice, sizes, FEW_WAYS[:6], SIGNS):
                    self.assertEqual(moved_way(back, moved_way(move, look[0])), look[0])
                    self.assertEqual(moved_look(block, back, moved_look(sizes, move, look)), look)
                for stone in some_stones(sizes):
                    self.assertEqual(moved_stone(block, back, moved_stone(sizes, move, stone)), stone)

    def test_after_for_looks_and_stones(self):
        sizes = (2, 3, 4)
        stone = some_stones(sizes)[5]
        look = thrown_looks(Dice(340), sizes, [(1, -2, 1)], SIGNS)[0]
        for one in MOVES[::5]:
            for other in MOVES[::3]:
                move, there = after(one, other), moved_block(sizes, one)
                self.assertEqual(
                    moved_stone(sizes, move, stone), moved_stone(there, other, moved_stone(sizes, one, stone)))
                self.assertEqual(moved_look(sizes, move, look), moved_look(there, other, moved_look(sizes, one, look)))
                self.assertEqual(moved_way(move, look[0]), moved_way(other, moved_way(one, look[0])))


class Answers(unittest.TestCase):
    def test_what_is_handed_in_stays(self):
        stone = [(0, 0, 0), (1, 0, 2), (1, 1, 1)]
        for move in MOVES[::6]:
            check_own_answer(self, moved_stone, (2, 2, 3), move, stone)
            check_own_answer(self, moved_stone, (2, 2, 3), move, [])
            check_handed_stays(self, moved_look, (2, 2, 3), move, ((1, 0, 0), "abc.?d"))
            answer = moved_stone((2, 2, 3), move, stone)
            handed = list(stone)
            self.assertEqual(moved_stone((2, 2, 3), move, handed), answer)
            handed.clear()
            self.assertEqual(len(answer), 3)


class GreatBlock(unittest.TestCase):
    def test_each_answers_soon(self):
        sizes = (6, 6, 6)
        whole = plain_places(sizes)
        looks = great_looks(9)
        left = greatest(sizes, looks)
        for move in MOVES[::9]:
            start = perf_counter()
            there = [moved_look(sizes, move, look) for look in looks]
            answer = moved_stone(sizes, move, whole)
            block = moved_block(sizes, move)
            self.assertLess(perf_counter() - start, 3)
            self.assertEqual(there, [plain_look(sizes, move, look) for look in looks])
            self.assertEqual((block, answer), (sizes, whole))
            self.assertEqual(greatest(block, there), plain_stone(sizes, move, left))
        self.assertEqual([len(picture) for way, picture in looks], [len(plain_doors(sizes, way)) for way in EIGHT_WAYS])


if __name__ == "__main__":
    unittest.main()
