"""Point 14: the paint made for an agreeing stone; with point 1 for what is handed in."""

import unittest
from time import perf_counter

from plain_looks import (
    Dice, EIGHT_WAYS, LETTERS, check_arguments, many_looks, plain_carve, plain_doors, plain_painted, plain_snapped,
)
from samples import FEW_WAYS, check_handed_stays, plain_places, some_stones
from sightstone.paints import painted

ALONG, AGAINST = (1, 0, 0), (-1, 0, 0)


class Painted(unittest.TestCase):
    def test_arguments(self):
        check_arguments(self, painted, ["sizes", "looks", "stone", "free"])

    def test_no_looks_give_the_free_letter_to_every_grain(self):
        for stone in some_stones((2, 3, 2)):
            self.assertEqual(painted((2, 3, 2), [], stone), "a" * len(stone))
            self.assertEqual(painted((2, 3, 2), [], stone, "q"), "q" * len(stone))
            self.assertEqual(painted((2, 3, 2), [], stone, free="z"), "z" * len(stone))

    def test_the_empty_stone_has_the_empty_paint(self):
        self.assertEqual(painted((2, 2, 2), [], []), "")
        self.assertEqual(painted((2, 2, 2), [(ALONG, "a.?b")], [], "c"), "")

    def test_hidden_and_veiled_grains_have_the_free_letter(self):
        stone = [(0, 0, 0), (1, 0, 0), (1, 1, 0), (2, 0, 0)]
        looks = [(ALONG, "x?"), (AGAINST, "y?")]
        self.assertEqual(painted((3, 2, 1), looks, stone), "xaay")
        self.assertEqual(painted((3, 2, 1), looks, stone, "m"), "xmmy")
        self.assertEqual(painted((3, 2, 1), looks, stone, free="x"), "xxxy")
        self.assertEqual(painted((3, 2, 1), looks + [((0, -1, 0), "?w?")], stone, free="m"), "xmwy")

    def test_the_letter_of_any_look_that_sees_the_grain(self):
        for at in range(4):
            looks = [(way, "k" if number == at else "?") for number, way in enumerate(FEW_WAYS[:4])]
            self.assertEqual(painted((1, 1, 1), looks, [(0, 0, 0)]), "k")
        looks = [(way, "k") for way in FEW_WAYS[:8]]
        self.assertEqual(painted((1, 1, 1), looks, [(0, 0, 0)], "b"), "k")

    def test_a_painted_stone_gets_back_what_is_seen_of_its_paint(self):
        dice = Dice(51)
        for sizes in [(2, 3, 4), (3, 3, 3), (6, 1, 2)]:
            for stone in some_stones(sizes):
                paint = dice.text(LETTERS, len(stone))
                looks = [(way, plain_snapped(sizes, way, stone, paint)) for way in FEW_WAYS[:3]]
                for free in "ax":
                    answer = painted(sizes, looks, stone, free)
                    self.assertEqual(answer, plain_painted(sizes, looks, stone, free))
                    for way, picture in looks:
                        self.assertEqual(plain_snapped(sizes, way, stone, answer), picture)

    def test_agreeing_stones_of_many_looks(self):
        for seed, sizes in enumerate([(2, 3, 2), (4, 2, 1), (2, 2, 3)]):
            for looks in many_looks(sizes, FEW_WAYS, seed):
                for first in some_stones(sizes):
                    stone, paper = plain_carve(sizes, looks, first, [])
                    wanted = plain_painted(sizes, looks, stone, "f")
                    self.assertEqual(painted(sizes, looks, stone, "f"), wanted, (sizes, looks, stone))

    def test_what_is_handed_in_stays(self):
        stone = [(0, 0, 0), (1, 0, 0)]
        looks = [(ALONG, "x?"), (AGAINST, "y?")]
        check_handed_stays(self, painted, (3, 2, 1), looks, stone, "b")
        answer = painted((3, 2, 1), looks, stone)
        stone.clear()
        looks.clear()
        self.assertEqual(answer, "xy")

    def test_the_great_block_answers_soon(self):
        sizes = (6, 6, 6)
        looks = [(way, "k" * len(plain_doors(sizes, way))) for way in EIGHT_WAYS]
        whole = plain_places(sizes)
        start = perf_counter()
        answer = painted(sizes, looks, whole, "f")
        self.assertLess(perf_counter() - start, 3)
        self.assertEqual(answer, plain_painted(sizes, looks, whole, "f"))


if __name__ == "__main__":
    unittest.main()
