"""Points 10, 11 and 15: carving, the greatest stone, verdicts, thinning; with point 1 for their answers."""

import unittest
from copy import deepcopy

from plain_looks import (
    Dice, EIGHT_WAYS, LETTERS, all_stones, check_arguments, great_looks, many_looks, plain_bare, plain_barred,
    plain_carve, plain_doors, plain_painted, plain_shows, plain_snapped, thrown_looks,
)
from samples import (
    FEW_WAYS, GREAT, WAYS, check_handed_stays, check_own_answer, check_plain_tuple, check_soon, check_stone,
    plain_places, some_stones,
)
from sightstone.carving import carve, greatest, thinned, verdict

ALONG, AGAINST, DOWN = (1, 0, 0), (-1, 0, 0), (0, -1, 0)

SMALL_BLOCKS = [(1, 1, 1), (2, 2, 2), (3, 2, 1), (1, 1, 6), (1, 4, 2), (3, 1, 3)]

PICKS = [
    [], [0], [1], [-1], [2, 1], [5, -3, 4, 0, 1], list(range(300)), [-1] * 300, [GREAT, -GREAT, GREAT + 1, 7],
    [n * n - 40 for n in range(25)],
]


def plain_greatest(sizes, looks):
    return plain_carve(sizes, looks, plain_places(sizes), [])[0]


def plain_thinned(sizes, looks):
    whole = plain_greatest(sizes, looks)
    kept = list(range(len(looks)))
    for number in range(len(looks) - 1, -1, -1):
        others = [other for other in kept if other != number]
        if plain_greatest(sizes, [looks[other] for other in others]) == whole:
            kept = others
    return kept


class Interface(unittest.TestCase):
    def test_arguments(self):
        check_arguments(self, carve, ["sizes", "looks", "stone", "picks"])
        for function in (greatest, verdict, thinned):
            check_arguments(self, function, ["sizes", "looks"])


class Carve(unittest.TestCase):
    def test_a_stone_that_agrees_already(self):
        for picks in PICKS:
            self.assertEqual(carve((2, 2, 1), [(ALONG, "a.")], [(1, 0, 0)], picks), ([(1, 0, 0)], []))
            self.assertEqual(carve((2, 2, 1), [], plain_places((2, 2, 1)), picks), (plain_places((2, 2, 1)), []))
            self.assertEqual(carve((2, 2, 1), [(ALONG, "..")], [], picks), ([], []))

    def test_one_grain_uncovers_the_next(self):
        rows = [((0, 0, 0), 0, 0), ((1, 0, 0), 0, 0), ((2, 0, 0), 0, 0)]
        for picks in PICKS:
            self.assertEqual(carve((3, 1, 1), [(ALONG, ".")], plain_places((3, 1, 1)), picks), ([], rows))
            left, paper = carve((3, 1, 1), [(AGAINST, ".")], plain_places((3, 1, 1)), picks)
            self.assertEqual((left, paper), ([], rows[::-1]))

    def test_the_bar_is_told_in_the_stone_as_it_is_then(self):
        # At first the look 0 does not see (1, 1, 0), since (0, 1, 0) hides it.
        looks = [(ALONG, "?."), (DOWN, "?.")]
        stone = [(0, 1, 0), (1, 1, 0)]
        self.assertEqual(plain_barred((2, 2, 1), looks, stone), [((0, 1, 0), 0, 0), ((1, 1, 0), 1, 1)])
        for picks in ([], [0], [2], [-2], [4, 9]):
            self.assertEqual(
                carve((2, 2, 1), looks, stone, picks), ([], [((0, 1, 0), 0, 0), ((1, 1, 0), 0, 0)]))
        for picks in ([1], [-1], [3, 5], [GREAT + 1]):
            self.assertEqual(
                carve((2, 2, 1), looks, stone, picks), ([], [((1, 1, 0), 1, 1), ((0, 1, 0), 0, 0)]))

    def test_unlike_letters_of_two_looks_meet(self):
        looks = [(ALONG, "a"), (AGAINST, "b"), ((0, 1, 0), "?.?")]
        self.assertEqual(carve((3, 1, 1), looks, plain_places((3, 1, 1)), []), (
            [(0, 0, 0), (2, 0, 0)], [((1, 0, 0), 2, 2)]))
        self.assertEqual(carve((3, 1, 1), looks[:2], [(1, 0, 0)], []), ([], [((1, 0, 0), 0, 1)]))
        looks = [(ALONG, "a"), (AGAINST, "b"), (ALONG, "."), ((0, 1, 0), "???")]
        self.assertEqual(carve((2, 1, 1), looks, plain_places((2, 1, 1)), []), (
            [], [((0, 0, 0), 2, 2), ((1, 0, 0), 2, 2)]))

    def test_each_pick_in_turn(self):
        # All four lines of two grains are carved away: at each turn one grain of each line left is barred.
        looks = [((0, 0, 1), "....")]
        paper = carve((2, 2, 2), looks, plain_places((2, 2, 2)), [3, 7, -1, 2, 1])[1]
        self.assertEqual([row[0] for row in paper], [
            (1, 1, 0), (1, 1, 1), (1, 0, 0), (1, 0, 1), (0, 1, 0), (0, 0, 0), (0, 0, 1), (0, 1, 1),
        ])

    def test_against_the_words(self):
        for seed, sizes in enumerate([(1, 1, 1), (2, 3, 2), (3, 1, 3), (1, 1, 6), (4, 2, 2)]):
            for at, looks in enumerate(many_looks(sizes, FEW_WAYS, seed)):
                for stone in some_stones(sizes)[1::2]:
                    for picks in ([], PICKS[at % len(PICKS)], PICKS[seed + 4]):
                        wanted = plain_carve(sizes, looks, stone, picks)
                        self.assertEqual(carve(sizes, looks, stone, picks), wanted, (sizes, looks, stone, picks))

    def test_along_every_way(self):
        for at, way in enumerate(WAYS):
            looks = many_looks((3, 2, 3), [way, WAYS[at * 11 % len(WAYS)]], at)[9 + at % 6]
            picks = PICKS[at % len(PICKS)]
            wanted = plain_carve((3, 2, 3), looks, plain_places((3, 2, 3)), picks)
            self.assertEqual(carve((3, 2, 3), looks, plain_places((3, 2, 3)), picks), wanted, (looks, picks))

    def test_more_looks_than_eight(self):
        looks = many_looks((2, 2, 2), FEW_WAYS, 3)[-1] + many_looks((2, 2, 2), FEW_WAYS, 4)[-2]
        whole = plain_places((2, 2, 2))
        self.assertEqual(carve((2, 2, 2), looks, whole, [3]), plain_carve((2, 2, 2), looks, whole, [3]))

    def test_kinds_of_the_answer(self):
        answer = carve((3, 2, 1), [(ALONG, "?.")], plain_places((3, 2, 1)), [])
        self.assertIs(type(answer), tuple)
        self.assertEqual(len(answer), 2)
        check_stone(self, answer[0])
        self.assertIs(type(answer[1]), list)
        self.assertEqual(len(answer[1]), 3)
        for row in answer[1]:
            self.assertIs(type(row), tuple)
            check_plain_tuple(self, row[0])
            check_plain_tuple(self, row[1:], 2)

    def test_the_answer_is_the_askers_own(self):
        for looks in [[], [(ALONG, "?a")], [(ALONG, ".a"), (AGAINST, "?b")], [(DOWN, "..")]]:
            handed = ((2, 2, 1), looks, plain_places((2, 2, 1)), [1, -2])
            before = deepcopy(handed)
            left, paper = carve(*handed)
            kept = deepcopy((left, paper))
            self.assertEqual(handed, before)
            left.append("spoilt")
            paper.append("spoilt")
            self.assertEqual(handed, before)
            self.assertEqual(carve(*handed), kept)

    def test_a_later_change_of_what_was_handed_in(self):
        looks, stone, picks = [(ALONG, "?.")], plain_places((2, 2, 1)), [1]
        answer = carve((2, 2, 1), looks, stone, picks)
        kept = deepcopy(answer)
        looks.clear()
        stone.clear()
        picks.clear()
        self.assertEqual(answer, kept)


class Greatest(unittest.TestCase):
    def test_by_trying_all_stones(self):
        for seed, sizes in enumerate(SMALL_BLOCKS):
            stones = all_stones(sizes)
            for looks in many_looks(sizes, FEW_WAYS, 60 + seed)[::2]:
                agreeing = [stone for stone in stones if not plain_barred(sizes, looks, stone)]
                self.check_left(sizes, looks, agreeing, plain_places(sizes), greatest(sizes, looks))
                for first in some_stones(sizes)[2:]:
                    left = carve(sizes, looks, first, [])[0]
                    self.check_left(sizes, looks, agreeing, first, left)

    def check_left(self, sizes, looks, agreeing, first, left):
        check_stone(self, left)
        self.assertIn(left, agreeing)
        self.assertLessEqual(set(left), set(first))
        for stone in agreeing:
            if set(stone) <= set(first):
                self.assertLessEqual(set(stone), set(left), (sizes, looks, first))
        for picks in PICKS:
            self.assertEqual(carve(sizes, looks, first, picks)[0], left, (sizes, looks, first, picks))

    def test_no_looks_leave_the_whole_block(self):
        for sizes in SMALL_BLOCKS + [(6, 6, 6)]:
            self.assertEqual(greatest(sizes, []), plain_places(sizes))

    def test_sky_alone_leaves_nothing(self):
        for way in WAYS:
            self.assertEqual(greatest((2, 3, 2), [(way, "." * len(plain_doors((2, 3, 2), way)))]), [])

    def test_veils_and_one_letter_leave_the_whole_block(self):
        for sign in "?k":
            looks = [(way, sign * len(plain_doors((2, 3, 4), way))) for way in FEW_WAYS[:8]]
            self.assertEqual(greatest((2, 3, 4), looks), plain_places((2, 3, 4)))

    def test_the_stone_that_was_snapped_lies_within(self):
        dice = Dice(61)
        for sizes in [(3, 3, 3), (2, 5, 3)]:
            for turn in range(20):
                stone = dice.stone(sizes)
                paint = dice.text("abc", len(stone))
                looks = [(way, plain_snapped(sizes, way, stone, paint)) for way in FEW_WAYS[turn % 5:turn % 5 + 7]]
                self.assertLessEqual(set(stone), set(greatest(sizes, looks)))

    def test_the_answer_is_the_askers_own(self):
        for looks in [[], [(ALONG, "?a")], [(ALONG, ".a"), (AGAINST, "?b")]]:
            check_own_answer(self, greatest, (2, 2, 1), looks)


class Verdict(unittest.TestCase):
    def test_by_trying_all_stones(self):
        told = {True: 0, False: 0}
        for seed, sizes in enumerate(SMALL_BLOCKS):
            stones = all_stones(sizes)
            for looks in many_looks(sizes, FEW_WAYS, 70 + seed):
                answer = verdict(sizes, looks)
                self.assertIs(type(answer), tuple)
                shown = any(plain_shows(sizes, looks, stone) for stone in stones)
                self.assertIs(answer[0], shown, (sizes, looks))
                told[shown] += 1
                stone = plain_greatest(sizes, looks)
                if shown:
                    self.check_paint(sizes, looks, stone, answer)
                else:
                    self.assertEqual(answer, (False, plain_bare(sizes, looks, stone)[0]), (sizes, looks))
        self.assertGreater(min(told.values()), 30)

    def check_paint(self, sizes, looks, stone, answer):
        self.assertEqual(answer, (True, plain_painted(sizes, looks, stone, "a")), (sizes, looks))
        for way, picture in looks:
            shown = plain_snapped(sizes, way, stone, answer[1])
            self.assertTrue(all(sign in ("?", there) for sign, there in zip(picture, shown)))

    def test_a_bare_door_of_the_greatest_stone_is_left_bare_by_each_agreeing_stone(self):
        sizes = (2, 2, 2)
        stones = all_stones(sizes)
        for looks in many_looks(sizes, FEW_WAYS, 80)[1::3]:
            answer = verdict(sizes, looks)
            if not answer[0]:
                for stone in stones:
                    if not plain_barred(sizes, looks, stone):
                        self.assertIn(answer[1], plain_bare(sizes, looks, stone))

    def test_no_looks_at_all(self):
        self.assertEqual(verdict((2, 1, 3), []), (True, "aaaaaa"))
        self.assertEqual(verdict((6, 6, 6), []), (True, "a" * 216))

    def test_the_empty_stone_shows_sky(self):
        self.assertEqual(verdict((2, 2, 2), [(ALONG, "....")]), (True, ""))

    def test_written_out(self):
        self.assertEqual(verdict((3, 1, 1), [(ALONG, "x"), (AGAINST, "y")]), (True, "xay"))
        self.assertEqual(verdict((1, 1, 1), [(ALONG, "x"), (AGAINST, "y")]), (False, (0, (0, 0, 0))))
        self.assertEqual(verdict((2, 1, 1), [(ALONG, "?"), (AGAINST, "y"), (ALONG, ".")]), (False, (1, (1, 0, 0))))
        self.assertEqual(verdict((2, 2, 1), [(ALONG, "??"), (AGAINST, ".z"), (DOWN, "..")]), (False, (1, (1, 1, 0))))
        self.assertEqual(
            verdict((2, 2, 1), [(ALONG, ".x"), (AGAINST, "y.")]), (False, (0, (0, 1, 0))))

    def test_kinds_of_the_door_told(self):
        first = verdict((1, 1, 1), [(ALONG, "x"), (AGAINST, "y")])[1]
        self.assertIs(type(first), tuple)
        self.assertIs(type(first[0]), int)
        check_plain_tuple(self, first[1])

    def test_what_is_handed_in_stays(self):
        for looks in [[], [(ALONG, ".x"), (AGAINST, "y.")], [(ALONG, "x?")]]:
            check_handed_stays(self, verdict, (2, 2, 1), looks)


class Thinned(unittest.TestCase):
    def test_no_looks_and_looks_of_veils(self):
        self.assertEqual(thinned((2, 2, 1), []), [])
        self.assertEqual(thinned((2, 2, 1), [(ALONG, "??")]), [])
        self.assertEqual(thinned((2, 2, 1), [(ALONG, "??"), (DOWN, "??"), (ALONG, "??")]), [])

    def test_the_same_look_again(self):
        self.assertEqual(thinned((2, 2, 1), [(ALONG, ".?")]), [0])
        self.assertEqual(thinned((2, 2, 1), [(ALONG, ".?")] * 2), [0])
        self.assertEqual(thinned((2, 2, 1), [(ALONG, ".?")] * 3), [0])
        self.assertEqual(thinned((2, 2, 1), [(DOWN, "??"), (ALONG, ".?"), (ALONG, ".?")]), [1])

    def test_each_alone_can_go_but_not_both(self):
        # Either sky carves the block away, so from the last to the first only the last one goes.
        self.assertEqual(thinned((3, 1, 1), [(ALONG, "."), (AGAINST, ".")]), [0])
        self.assertEqual(thinned((3, 1, 1), [(AGAINST, "."), (ALONG, ".")]), [0])
        self.assertEqual(thinned((2, 2, 1), [(AGAINST, ".?"), (ALONG, ".?"), (DOWN, "?.")]), [0, 2])

    def test_looks_that_are_all_needed(self):
        self.assertEqual(thinned((2, 2, 1), [(ALONG, ".?"), (AGAINST, "?.")]), [0, 1])
        self.assertEqual(thinned((1, 1, 1), [(ALONG, "a"), (AGAINST, "b")]), [0, 1])
        self.assertEqual(thinned((1, 1, 1), [(ALONG, "a"), (AGAINST, "b"), (DOWN, "c")]), [0, 1])
        self.assertEqual(thinned((1, 1, 1), [(ALONG, "a"), (AGAINST, "b"), (DOWN, ".")]), [0, 1])

    def test_a_look_that_tells_letters_but_carves_nothing_goes(self):
        self.assertEqual(thinned((2, 2, 1), [(ALONG, "ab"), (AGAINST, "cd")]), [])

    def test_against_the_words(self):
        lengths = set()
        for seed, sizes in enumerate([(2, 2, 2), (3, 2, 1), (3, 1, 3), (1, 1, 1)]):
            for looks in many_looks(sizes, FEW_WAYS, 90 + seed):
                answer = thinned(sizes, looks)
                lengths.add(len(answer))
                self.assertEqual(answer, plain_thinned(sizes, looks), (sizes, looks))
        self.assertGreater(len(lengths), 3)

    def test_the_answer_is_the_askers_own(self):
        for looks in [[], [(ALONG, ".?"), (AGAINST, "?.")], [(ALONG, "??")]]:
            check_own_answer(self, thinned, (2, 2, 1), looks)


class GreatBlock(unittest.TestCase):
    def test_each_answers_soon(self):
        sizes = (6, 6, 6)
        whole = plain_places(sizes)
        dice = Dice(99)
        skies = thrown_looks(dice, sizes, EIGHT_WAYS, ".")
        letters = thrown_looks(dice, sizes, EIGHT_WAYS, LETTERS)
        for looks in (great_looks(5), great_looks(6), skies, letters):
            left = check_soon(self, greatest, sizes, looks)
            for picks in ([], [-1] * 300):
                answer = check_soon(self, carve, sizes, looks, whole, picks)
                self.assertEqual(answer[0], left)
                self.assertEqual(len(answer[0]) + len(answer[1]), 216)
            self.assertEqual(plain_barred(sizes, looks, left), [])
            check_soon(self, verdict, sizes, looks)
            kept = check_soon(self, thinned, sizes, looks)
            self.assertEqual(greatest(sizes, [looks[number] for number in kept]), left)

    def test_the_paper_is_right(self):
        sizes = (6, 6, 6)
        looks = great_looks(7)
        wanted = plain_carve(sizes, looks, plain_places(sizes)[::4], PICKS[9])
        self.assertEqual(carve(sizes, looks, plain_places(sizes)[::4], PICKS[9]), wanted)


if __name__ == "__main__":
    unittest.main()
