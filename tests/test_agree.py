"""Points 7, 8 and 9: what bars a grain, agreeing, showing, sole grains; with point 1 for their answers."""

import unittest
from itertools import product
from time import perf_counter

from plain_looks import (
    Dice, LETTERS, SIGNS, all_stones, check_arguments, great_looks, many_looks, plain_bar, plain_bare,
    plain_barred, plain_shows, plain_snapped, plain_sole,
)
from samples import (
    FEW_WAYS, WAYS, check_handed_stays, check_own_answer, check_plain_tuple, check_stone, plain_places, some_stones,
)
from sightstone.agree import agrees, bar_of, bare, barred, shows, sole

ALONG, AGAINST = (1, 0, 0), (-1, 0, 0)
GRAIN = (0, 0, 0)


def told_alone(signs):
    """Looks at the block of one place, which all see its grain."""
    return [(WAYS[(at * 37) % len(WAYS)], sign) for at, sign in enumerate(signs)]


def wanted_alone(signs):
    if "." in signs:
        return (signs.index("."), signs.index("."))
    pairs = [
        (i, j) for i in range(len(signs)) for j in range(i + 1, len(signs))
        if signs[i] != signs[j] and "?" not in (signs[i], signs[j])
    ]
    return min(pairs) if pairs else None


class Interface(unittest.TestCase):
    def test_arguments(self):
        check_arguments(self, bar_of, ["sizes", "looks", "stone", "place"])
        for function in (barred, agrees, shows, bare, sole):
            check_arguments(self, function, ["sizes", "looks", "stone"])


class BarOf(unittest.TestCase):
    def check_alone(self, signs, wanted):
        looks = told_alone(signs)
        self.assertEqual(bar_of((1, 1, 1), looks, [GRAIN], GRAIN), wanted, signs)
        rows = [] if wanted is None else [(GRAIN, *wanted)]
        self.assertEqual(barred((1, 1, 1), looks, [GRAIN]), rows, signs)

    def test_no_looks(self):
        self.check_alone("", None)
        for place in plain_places((2, 3, 1)):
            self.assertIsNone(bar_of((2, 3, 1), [], plain_places((2, 3, 1)), place))

    def test_sky_told_by_one_look(self):
        for signs, wanted in [(".", (0, 0)), ("?.", (1, 1)), (".a", (0, 0)), ("a.", (1, 1)), ("aa?.a", (3, 3))]:
            self.check_alone(signs, wanted)

    def test_sky_told_by_several_looks(self):
        for signs, wanted in [("..", (0, 0)), ("?..", (1, 1)), ("a.a.", (1, 1)), ("????....", (4, 4))]:
            self.check_alone(signs, wanted)

    def test_unlike_letters_next_to_one_another_and_far_apart(self):
        for signs, wanted in [
            ("ab", (0, 1)), ("?ab", (1, 2)), ("a?b", (0, 2)), ("aab", (0, 2)), ("abb", (0, 1)), ("aba", (0, 1)),
            ("abc", (0, 1)), ("aabc", (0, 2)), ("z??????y", (0, 7)), ("aaaaaaab", (0, 7)), ("??b?bb?a", (2, 7)),
            ("?az?", (1, 2)),
        ]:
            self.check_alone(signs, wanted)

    def test_the_same_letter_and_veils_alone(self):
        for signs in ["a", "z", "aa", "a?a", "?zz?z", "aaaaaaaa", "?", "??", "????????"]:
            self.check_alone(signs, None)

    def test_sky_and_unlike_letters_at_once(self):
        for signs, wanted in [
            ("ab.", (2, 2)), (".ab", (0, 0)), ("a.b", (1, 1)), ("ab?.?.", (3, 3)), ("abcdefg.", (7, 7)),
        ]:
            self.check_alone(signs, wanted)

    def test_every_text_of_up_to_four_signs(self):
        for many in range(5):
            for signs in product("abc.?", repeat=many):
                self.check_alone("".join(signs), wanted_alone("".join(signs)))

    def test_eight_and_more_looks(self):
        dice = Dice(11)
        for signs in ["ab.?", "ab?", "aaaaab?", SIGNS, LETTERS, "a?", "aaaaaaaaaa.?b"]:
            for many in (5, 6, 7, 8, 9, 12):
                text = dice.text(signs, many)
                self.check_alone(text, wanted_alone(text))

    def test_two_looks_along_one_way(self):
        looks = [(ALONG, "a"), (ALONG, "b")]
        self.assertEqual(bar_of((3, 1, 1), looks, [(1, 0, 0), (2, 0, 0)], (1, 0, 0)), (0, 1))
        self.assertIsNone(bar_of((3, 1, 1), looks, [(1, 0, 0), (2, 0, 0)], (2, 0, 0)))
        self.assertIsNone(bar_of((3, 1, 1), [(ALONG, "a"), (ALONG, "?")], [(1, 0, 0)], (1, 0, 0)))

    def test_looks_that_do_not_see_the_grain(self):
        stone = [(0, 0, 0), (1, 0, 0), (2, 0, 0)]
        looks = [(ALONG, "."), (AGAINST, "b"), (ALONG, "c"), ((0, 0, 1), "?d?")]
        self.assertEqual(bar_of((3, 1, 1), looks, stone, (0, 0, 0)), (0, 0))
        self.assertIsNone(bar_of((3, 1, 1), looks, stone, (1, 0, 0)))
        self.assertIsNone(bar_of((3, 1, 1), looks, stone, (2, 0, 0)))
        self.assertEqual(barred((3, 1, 1), looks, stone), [((0, 0, 0), 0, 0)])
        self.assertEqual(barred((3, 1, 1), looks, [(1, 0, 0), (2, 0, 0)]), [((1, 0, 0), 0, 0)])
        self.assertEqual(barred((3, 1, 1), looks[1:], [(0, 0, 0), (1, 0, 0)]), [((1, 0, 0), 0, 2)])
        self.assertEqual(barred((3, 1, 1), looks[1:], [(1, 0, 0)]), [((1, 0, 0), 0, 1)])

    def test_only_whole_steps_along_the_way_hide(self):
        # From (0, 0, 0) a step leads to (2, 0, 1), past (1, 0, 0).
        looks = [((2, 0, 1), "." * 8)]
        self.assertEqual(
            barred((4, 1, 3), looks, [(0, 0, 0), (1, 0, 0), (2, 0, 1)]), [((0, 0, 0), 0, 0), ((1, 0, 0), 0, 0)])
        self.assertEqual(
            barred((4, 1, 3), looks, [(1, 0, 0), (2, 0, 1)]), [((1, 0, 0), 0, 0), ((2, 0, 1), 0, 0)])

    def test_a_bar_is_a_tuple_of_two_numbers(self):
        check_plain_tuple(self, bar_of((1, 1, 1), told_alone("ab"), [GRAIN], GRAIN), 2)
        check_plain_tuple(self, bar_of((1, 1, 1), told_alone("?."), [GRAIN], GRAIN), 2)


class AgainstTheWords(unittest.TestCase):
    """Every answer compared with one that is made from the document's words."""

    def check_all(self, sizes, looks, stone):
        rows = barred(sizes, looks, stone)
        told = (sizes, looks, stone)
        self.assertEqual(rows, plain_barred(sizes, looks, stone), told)
        for grain in stone:
            self.assertEqual(bar_of(sizes, looks, stone, grain), plain_bar(sizes, looks, stone, grain), told)
        self.assertIs(agrees(sizes, looks, stone), plain_barred(sizes, looks, stone) == [], told)
        self.assertIs(shows(sizes, looks, stone), plain_shows(sizes, looks, stone), told)
        self.assertEqual(bare(sizes, looks, stone), plain_bare(sizes, looks, stone), told)
        answer = sole(sizes, looks, stone)
        check_stone(self, answer)
        self.assertEqual(answer, plain_sole(sizes, looks, stone), told)

    def test_sample_stones_of_unlike_blocks(self):
        for seed, sizes in enumerate([(1, 1, 1), (1, 1, 6), (2, 3, 4), (3, 1, 5), (2, 2, 2), (6, 2, 1)]):
            for looks in many_looks(sizes, FEW_WAYS, seed):
                for stone in some_stones(sizes):
                    self.check_all(sizes, looks, stone)

    def test_every_stone_of_a_small_block(self):
        for looks in many_looks((2, 3, 1), WAYS, 21):
            for stone in all_stones((2, 3, 1)):
                self.check_all((2, 3, 1), looks, stone)

    def test_every_way(self):
        dice = Dice(22)
        for at, way in enumerate(WAYS):
            sizes = [(4, 3, 3), (3, 4, 2), (2, 3, 5)][at % 3]
            looks = many_looks(sizes, [way, WAYS[at * 7 % len(WAYS)]], at)[8 + at % 7]
            self.check_all(sizes, looks, dice.stone(sizes))


class Agreeing(unittest.TestCase):
    def test_the_empty_stone_agrees_with_all(self):
        for looks in many_looks((2, 2, 3), FEW_WAYS, 31):
            self.assertIs(agrees((2, 2, 3), looks, []), True)
            self.assertEqual(barred((2, 2, 3), looks, []), [])
            self.assertEqual(sole((2, 2, 3), looks, []), [])
            lettered = any(sign in LETTERS for way, picture in looks for sign in picture)
            self.assertIs(shows((2, 2, 3), looks, []), not lettered)

    def test_no_looks_are_shown_by_every_stone(self):
        for stone in some_stones((2, 3, 4)):
            self.assertIs(agrees((2, 3, 4), [], stone), True)
            self.assertIs(shows((2, 3, 4), [], stone), True)
            self.assertEqual(bare((2, 3, 4), [], stone), [])
            self.assertEqual(sole((2, 3, 4), [], stone), [])

    def test_a_painted_stone_shows_its_pictures(self):
        dice = Dice(32)
        for sizes in [(1, 1, 1), (2, 3, 4), (3, 3, 3), (6, 2, 3)]:
            for stone in some_stones(sizes):
                paint = dice.text(LETTERS, len(stone))
                looks = [(way, plain_snapped(sizes, way, stone, paint)) for way in FEW_WAYS[:8]]
                self.assertIs(agrees(sizes, looks, stone), True)
                self.assertIs(shows(sizes, looks, stone), True)

    def test_a_stone_may_agree_and_not_show(self):
        looks = [(ALONG, "ab")]
        self.assertIs(agrees((2, 2, 1), looks, [(1, 1, 0)]), True)
        self.assertIs(shows((2, 2, 1), looks, [(1, 1, 0)]), False)
        self.assertIs(shows((2, 2, 1), looks, [(0, 0, 0), (1, 1, 0)]), True)

    def test_a_stone_may_leave_no_door_bare_and_not_agree(self):
        looks = [(ALONG, "a."), (AGAINST, "??")]
        stone = [(0, 0, 0), (0, 1, 0)]
        self.assertEqual(bare((2, 2, 1), looks, stone), [])
        self.assertIs(agrees((2, 2, 1), looks, stone), False)
        self.assertIs(shows((2, 2, 1), looks, stone), False)


class Bare(unittest.TestCase):
    def test_letter_sky_and_veil_on_lines_with_none_one_and_several_grains(self):
        # The lines along (0, 0, 1) of this block have no grain, one and three, each three times.
        stone = [(x, y, z) for x in range(3) for y, many in enumerate((0, 1, 3)) for z in range(many)]
        looks = [((0, 0, 1), "aaa...???")]
        self.assertEqual(bare((3, 3, 3), looks, stone), [(0, (0, 0, 0))])
        self.assertEqual(sole((3, 3, 3), looks, stone), [(0, 1, 0)])
        self.assertEqual(barred((3, 3, 3), looks, stone), [((1, 1, 0), 0, 0), ((1, 2, 0), 0, 0)])
        self.assertIs(shows((3, 3, 3), looks, stone), False)

    def test_rows_rise_by_look_then_by_door(self):
        looks = [(AGAINST, "?b"), (ALONG, "aa"), ((0, -1, 0), "c.")]
        self.assertEqual(bare((2, 2, 1), looks, []), [
            (0, (1, 1, 0)), (1, (0, 0, 0)), (1, (0, 1, 0)), (2, (0, 1, 0)),
        ])
        self.assertEqual(bare((2, 2, 1), looks, [(1, 1, 0)]), [(1, (0, 0, 0)), (2, (0, 1, 0))])
        self.assertEqual(bare((2, 2, 1), looks, plain_places((2, 2, 1))), [])

    def test_the_whole_block_leaves_no_door_bare(self):
        for looks in many_looks((2, 3, 2), FEW_WAYS, 41):
            self.assertEqual(bare((2, 3, 2), looks, plain_places((2, 3, 2))), [])

    def test_kinds_of_the_rows(self):
        for row in bare((2, 2, 1), [(ALONG, "aa")], []):
            self.assertIs(type(row), tuple)
            number, door = row
            self.assertIs(type(number), int)
            check_plain_tuple(self, door)
        for row in barred((2, 2, 1), [(ALONG, "..")], plain_places((2, 2, 1))):
            self.assertIs(type(row), tuple)
            check_plain_tuple(self, row[0])
            check_plain_tuple(self, row[1:], 2)


class Sole(unittest.TestCase):
    def test_the_only_grain_of_a_line_with_a_letter(self):
        stone = [(0, 0, 0), (0, 1, 0), (1, 1, 0)]
        self.assertEqual(sole((2, 2, 1), [(ALONG, "aa")], stone), [(0, 0, 0)])
        self.assertEqual(sole((2, 2, 1), [(ALONG, ".a")], stone), [])
        self.assertEqual(sole((2, 2, 1), [(ALONG, "?a")], stone), [])
        self.assertEqual(sole((2, 2, 1), [((0, 1, 0), "aa")], stone), [(1, 1, 0)])
        self.assertEqual(sole((2, 2, 1), [((0, 1, 0), "ab"), (AGAINST, "b.")], stone), [(0, 0, 0), (1, 1, 0)])
        self.assertEqual(sole((2, 2, 1), [((0, 0, 1), "z??z")], stone), [(0, 0, 0), (1, 1, 0)])

    def test_a_grain_that_is_sole_for_several_looks_is_there_once(self):
        looks = [(ALONG, "a"), (AGAINST, "b"), ((0, 0, 1), "???a")]
        self.assertEqual(sole((4, 1, 1), looks, [(3, 0, 0)]), [(3, 0, 0)])


class Answers(unittest.TestCase):
    def test_the_answers_are_the_askers_own(self):
        stone = [(0, 0, 0), (1, 1, 0)]
        for looks in [[], [(ALONG, "?a"), (AGAINST, ".b")], [((0, -1, 0), "ab"), (ALONG, "ba")]]:
            for function in (barred, bare, sole):
                check_own_answer(self, function, (2, 2, 1), looks, stone)
                check_own_answer(self, function, (2, 2, 1), looks, [])
            for function in (agrees, shows):
                check_handed_stays(self, function, (2, 2, 1), looks, stone)
            check_handed_stays(self, bar_of, (2, 2, 1), looks, stone, (1, 1, 0))


class GreatBlock(unittest.TestCase):
    def test_each_answers_soon(self):
        sizes = (6, 6, 6)
        whole = plain_places(sizes)
        for seed in range(3):
            looks = great_looks(seed)
            for function in (barred, agrees, shows, bare, sole):
                for stone in (whole, whole[::3], []):
                    start = perf_counter()
                    function(sizes, looks, stone)
                    self.assertLess(perf_counter() - start, 3, function.__name__)
            start = perf_counter()
            for place in whole[::9]:
                bar_of(sizes, looks, whole, place)
            self.assertLess(perf_counter() - start, 5)

    def test_the_answers_are_right(self):
        sizes = (6, 6, 6)
        looks = great_looks(4)
        stone = Dice(4).stone(sizes)
        self.assertEqual(barred(sizes, looks, stone), plain_barred(sizes, looks, stone))
        self.assertEqual(bare(sizes, looks, stone), plain_bare(sizes, looks, stone))
        self.assertEqual(sole(sizes, looks, stone), plain_sole(sizes, looks, stone))


if __name__ == "__main__":
    unittest.main()
