"""Points 12 and 13: papers looked through, and what their rows need; with point 1 for their answers."""

import unittest
from itertools import combinations

from plain_looks import (
    Dice, EIGHT_WAYS, SIGNS, check_arguments, great_looks, many_looks, plain_bar, plain_carve, plain_told, thrown_looks,
)
from plain_papers import plain_because, plain_fault, plain_stands, rows_stand
from samples import FEW_WAYS, GREAT, check_handed_stays, check_own_answer, check_soon, plain_places, some_stones
from sightstone.carving import carve
from sightstone.papers import because, fault_of

ALONG, AGAINST, DOWN = (1, 0, 0), (-1, 0, 0), (0, -1, 0)

MANY_PICKS = [[], [-1] * 300, [1, 2, 3, 4, 5, 6, 7], [n * n - 40 for n in range(40)], [GREAT, -GREAT, 3]]

ONE = (1, 1, 1)
GRAIN = (0, 0, 0)


def told_alone(signs):
    """Looks at the block of one place, which all see its grain."""
    return [(FEW_WAYS[at], sign) for at, sign in enumerate(signs)]


def papers_of(seed, blocks, ways=FEW_WAYS):
    """Looks, stones and the papers that carving them gives, with no picks and with many."""
    for at, sizes in enumerate(blocks):
        for number, looks in enumerate(many_looks(sizes, ways, seed + at)):
            for stone in some_stones(sizes)[1::2]:
                for picks in ([], MANY_PICKS[number % len(MANY_PICKS)]):
                    left, paper = plain_carve(sizes, looks, stone, picks)
                    yield sizes, looks, stone, left, paper


class Interface(unittest.TestCase):
    def test_arguments(self):
        check_arguments(self, fault_of, ["sizes", "looks", "stone", "paper", "left"])
        check_arguments(self, because, ["sizes", "looks", "stone", "paper", "place"])


class TheEmptyPaper(unittest.TestCase):
    def test_with_the_told_stone_and_with_another_one(self):
        whole = plain_places((2, 2, 1))
        for looks in ([], [(ALONG, ".?")], [(ALONG, "ab"), (AGAINST, "ba")]):
            for stone in ([], whole, whole[1:]):
                self.assertIsNone(fault_of((2, 2, 1), looks, stone, [], list(stone)))
                for other in ([], whole, whole[1:], whole[:-1], [(1, 0, 0)]):
                    if other != stone:
                        self.assertEqual(fault_of((2, 2, 1), looks, stone, [], other), 0)
                        self.assertIs(type(fault_of((2, 2, 1), looks, stone, [], other)), int)


class OneRow(unittest.TestCase):
    """Each row asked of the block of one place, whose grain all looks see."""

    def check_row(self, signs, i, j, good):
        looks = told_alone(signs)
        wanted = None if good else 0
        self.assertEqual(fault_of(ONE, looks, [GRAIN], [(GRAIN, i, j)], []), wanted, (signs, i, j))
        # A row that stands leaves the empty stone, so the whole one is a fault behind it.
        wanted = 1 if good else 0
        self.assertEqual(fault_of(ONE, looks, [GRAIN], [(GRAIN, i, j)], [GRAIN]), wanted, (signs, i, j))

    def test_sky_told_by_one_look(self):
        self.check_row(".", 0, 0, True)
        self.check_row("a.", 1, 1, True)
        self.check_row("??.", 2, 2, True)

    def test_one_look_that_tells_a_letter_or_a_veil(self):
        for sign in "az?":
            self.check_row(sign, 0, 0, False)
            self.check_row("." + sign, 1, 1, False)

    def test_unlike_letters(self):
        self.check_row("ab", 0, 1, True)
        self.check_row("z?a", 0, 2, True)

    def test_i_greater_than_j(self):
        self.check_row("ab", 1, 0, False)
        self.check_row("..", 1, 0, False)
        self.check_row("z?a", 2, 0, False)

    def test_two_looks_that_tell_the_same(self):
        for signs in ("aa", "zz", "??", ".."):
            self.check_row(signs, 0, 1, False)

    def test_a_letter_and_a_veil(self):
        self.check_row("a?", 0, 1, False)
        self.check_row("?a", 0, 1, False)

    def test_a_letter_and_sky_and_a_veil_and_sky(self):
        for signs in ("a.", ".a", "?.", ".?"):
            self.check_row(signs, 0, 1, False)

    def test_numbers_of_looks_below_nought_and_too_great(self):
        for i, j in [
            (-1, -1), (-2, -2), (-1, 0), (-1, 1), (0, -1), (2, 2), (0, 2), (1, 2), (-2, 1), (-GREAT, -GREAT),
            (GREAT, GREAT), (0, GREAT), (-GREAT, 1), (8, 8),
        ]:
            self.check_row("..", i, j, False)
            self.check_row("ab", i, j, False)

    def test_no_looks(self):
        self.check_row("", 0, 0, False)
        self.check_row("", -1, -1, False)

    def test_a_pair_that_bars_but_is_not_the_told_bar(self):
        self.check_row("..", 1, 1, True)
        self.check_row("abc", 0, 2, True)
        self.check_row("abc", 1, 2, True)
        self.check_row("aab", 1, 2, True)
        self.check_row("ab.", 0, 1, True)
        self.check_row(".ab.", 3, 3, True)

    def test_every_row_of_three_signs(self):
        for signs in [one + two + three for one in "ab.?" for two in "ab.?" for three in "ab.?"]:
            for i in range(-1, 4):
                for j in range(-1, 4):
                    good = 0 <= i <= j < 3 and (
                        signs[i] == "." if i == j
                        else signs[i] in "ab" and signs[j] in "ab" and signs[i] != signs[j])
                    self.check_row(signs, i, j, good)

    def test_places_that_are_no_grain(self):
        looks = [(ALONG, ".."), (AGAINST, "ab"), (DOWN, "ba")]
        stone = [(0, 0, 0), (0, 1, 0), (1, 1, 0)]
        for place in [
            (1, 0, 0), (2, 0, 0), (-1, 0, 0), (0, -1, 0), (0, 2, 0), (0, 0, 1), (0, 0, -1), (100, -50, 7),
            (GREAT, 0, 0), (0, -GREAT, GREAT),
        ]:
            for i, j in [(0, 0), (1, 2)]:
                self.assertEqual(fault_of((2, 2, 1), looks, stone, [(place, i, j)], stone), 0)
                self.assertEqual(fault_of((2, 2, 1), looks, stone, [((0, 0, 0), 0, 0), (place, i, j)], stone), 1)
                self.assertEqual(fault_of((2, 2, 1), looks, [], [(place, i, j)], []), 0)

    def test_a_look_that_does_not_see_the_grain(self):
        looks = [(ALONG, "."), (AGAINST, "."), ((0, 0, 1), "abc"), (ALONG, "z")]
        stone = [(0, 0, 0), (1, 0, 0), (2, 0, 0)]
        for place, i, j, good in [
            ((0, 0, 0), 0, 0, True), ((0, 0, 0), 1, 1, False), ((0, 0, 0), 2, 3, True),
            ((1, 0, 0), 0, 0, False), ((1, 0, 0), 1, 1, False), ((1, 0, 0), 2, 3, False),
            ((2, 0, 0), 0, 0, False), ((2, 0, 0), 1, 1, True), ((2, 0, 0), 2, 3, False),
        ]:
            left = [grain for grain in stone if grain != place]
            wanted = None if good else 0
            self.assertEqual(fault_of((3, 1, 1), looks, stone, [(place, i, j)], left), wanted, (place, i, j))

    def test_a_grain_is_seen_once_all_that_hide_it_went(self):
        looks = [(ALONG, "."), (AGAINST, "?")]
        rows = [((0, 0, 0), 0, 0), ((1, 0, 0), 0, 0), ((2, 0, 0), 0, 0)]
        stone = plain_places((3, 1, 1))
        self.assertIsNone(fault_of((3, 1, 1), looks, stone, rows, []))
        self.assertEqual(fault_of((3, 1, 1), looks, stone, [rows[0], rows[2]], [(1, 0, 0)]), 1)
        self.assertIsNone(fault_of((3, 1, 1), looks, [stone[0], stone[2]], [rows[0], rows[2]], []))


class WholePapers(unittest.TestCase):
    def test_papers_that_are_carved(self):
        lengths = set()
        for sizes, looks, stone, left, paper in papers_of(100, [(1, 1, 1), (2, 3, 2), (1, 1, 6), (3, 1, 3)]):
            lengths.add(len(paper))
            self.assertIsNone(fault_of(sizes, looks, stone, paper, left), (sizes, looks, stone, paper))
        self.assertGreater(len(lengths), 8)

    def test_papers_that_the_program_carves(self):
        for sizes in [(2, 3, 2), (4, 2, 2)]:
            for looks in many_looks(sizes, FEW_WAYS, 110):
                for picks in MANY_PICKS:
                    left, paper = carve(sizes, looks, plain_places(sizes), picks)
                    self.assertIsNone(fault_of(sizes, looks, plain_places(sizes), paper, left))

    def test_all_rows_stand_but_another_stone_is_told(self):
        for sizes, looks, stone, left, paper in papers_of(120, [(2, 3, 2), (1, 1, 6)]):
            for other in (stone, left + stone[-1:], left[1:], left[:-1], []):
                if other != left:
                    self.assertEqual(fault_of(sizes, looks, stone, paper, other), len(paper))

    def test_a_paper_that_ends_before_the_stone_agrees_is_faultless(self):
        for sizes, looks, stone, left, paper in papers_of(130, [(2, 2, 2)]):
            for many in range(len(paper) + 1):
                went = [row[0] for row in paper[:many]]
                rest = [grain for grain in stone if grain not in went]
                self.assertIsNone(fault_of(sizes, looks, stone, paper[:many], rest))

    def test_a_row_twice(self):
        for sizes, looks, stone, left, paper in papers_of(140, [(2, 3, 1), (2, 2, 2)]):
            for at in range(len(paper)):
                again = paper[:at + 1] + paper[at:]
                self.assertEqual(fault_of(sizes, looks, stone, again, left), at + 1)
                self.assertEqual(fault_of(sizes, looks, stone, paper + [paper[at]], left), len(paper))

    def test_a_row_left_out_and_two_rows_changed_about(self):
        told = {}
        for sizes, looks, stone, left, paper in papers_of(150, [(2, 3, 1), (1, 1, 6), (3, 1, 3)]):
            changed = [paper[:at] + paper[at + 1:] for at in range(len(paper))]
            for one, other in combinations(range(len(paper)), 2):
                rows = list(paper)
                rows[one], rows[other] = rows[other], rows[one]
                changed.append(rows)
            for rows in changed:
                wanted = plain_fault(sizes, looks, stone, rows, left)
                self.assertEqual(fault_of(sizes, looks, stone, rows, left), wanted, (sizes, looks, stone, rows))
                told[wanted] = told.get(wanted, 0) + 1
        self.assertGreater(min(told[wanted] for wanted in (None, 0, 1, 2, 3)), 10)

    def test_the_first_row_that_does_not_stand_is_told(self):
        looks = [(ALONG, "."), (AGAINST, "?")]
        good = [((0, 0, 0), 0, 0), ((1, 0, 0), 0, 0)]
        for bad in (((5, 0, 0), 0, 0), ((2, 0, 0), 1, 1), ((2, 0, 0), 0, 1), ((2, 0, 0), 0, 7)):
            for paper, wanted in [
                ([bad] + good, 0), (good[:1] + [bad, bad], 1), (good + [bad], 2), (good + [bad, bad], 2),
                ([bad, bad], 0),
            ]:
                for left in ([(2, 0, 0)], []):
                    self.assertEqual(fault_of((3, 1, 1), looks, plain_places((3, 1, 1)), paper, left), wanted)

    def test_rows_thrown_and_changed(self):
        """Papers with one part of one row put anew, compared with the words."""
        dice = Dice(160)
        told = {None: 0}
        for sizes, looks, stone, left, paper in papers_of(160, [(2, 2, 2), (3, 2, 1), (1, 4, 2)]):
            if not paper:
                continue
            for turn in range(6):
                at = dice.below(len(paper))
                place, i, j = paper[at]
                row = [
                    (dice.one_of(plain_places((3, 4, 3))), i, j), (place, dice.below(11) - 1, j),
                    (place, i, dice.below(11) - 1), (place, *[dice.below(8)] * 2),
                ][turn % 4]
                rows = paper[:at] + [row] + paper[at + 1:]
                wanted = plain_fault(sizes, looks, stone, rows, left)
                self.assertEqual(fault_of(sizes, looks, stone, rows, left), wanted, (sizes, looks, stone, rows))
                told[wanted] = told.get(wanted, 0) + 1
        self.assertGreater(min(told[wanted] for wanted in (None, 0, 1, 2)), 10)

    def test_papers_of_any_bar_that_stands(self):
        """At each turn any pair that bars is taken, not the told one alone."""
        others = 0
        for seed in range(60):
            dice = Dice(seed)
            sizes = dice.one_of([(2, 2, 2), (3, 2, 1), (2, 1, 4)])
            looks = thrown_looks(dice, sizes, [dice.one_of(FEW_WAYS) for turn in range(6)], "ab..?")
            stone = plain_places(sizes)
            now, paper = list(stone), []
            while True:
                rows = [
                    (grain, i, j) for grain in now for i, sign in plain_told(sizes, looks, now, grain)
                    for j in range(i, 6) if plain_stands(sizes, looks, now, (grain, i, j))
                ]
                if not rows:
                    break
                paper.append(dice.one_of(rows))
                others += plain_bar(sizes, looks, now, paper[-1][0]) != paper[-1][1:]
                now.remove(paper[-1][0])
            self.assertIsNone(fault_of(sizes, looks, stone, paper, now))
            self.assertEqual(fault_of(sizes, looks, stone, paper, stone), len(paper) if paper else None)
        self.assertGreater(others, 50)

    def test_more_looks_than_eight(self):
        looks = told_alone("??????????ab"[:12])
        self.assertIsNone(fault_of(ONE, looks, [GRAIN], [(GRAIN, 10, 11)], []))


class Because(unittest.TestCase):
    def check_because(self, sizes, looks, stone, paper, place):
        answer = because(sizes, looks, stone, paper, place)
        self.assertIs(type(answer), list)
        self.assertEqual(answer[-1][0], place)
        self.assertEqual(answer, [row for row in paper if row in answer])
        self.assertTrue(rows_stand(sizes, looks, stone, answer), (sizes, looks, stone, paper, place))
        return answer

    def test_a_row_that_needs_no_other(self):
        looks = [(ALONG, "..")]
        paper = [((0, 0, 0), 0, 0), ((0, 1, 0), 0, 0)]
        for at in range(2):
            self.assertEqual(because((2, 2, 1), looks, plain_places((2, 2, 1)), paper, paper[at][0]), [paper[at]])

    def test_hidden_at_several_steps(self):
        for way, order in ((ALONG, (0, 1, 2, 3, 4, 5)), (AGAINST, (5, 4, 3, 2, 1, 0))):
            paper = [((x, 0, 0), 0, 0) for x in order]
            for at, row in enumerate(paper):
                answer = because((6, 1, 1), [(way, ".")], plain_places((6, 1, 1)), paper, row[0])
                self.assertEqual(answer, paper[:at + 1])

    def test_only_grains_of_the_first_stone_are_needed(self):
        paper = [((0, 0, 0), 0, 0), ((3, 0, 0), 0, 0), ((5, 0, 0), 0, 0)]
        stone = [(0, 0, 0), (3, 0, 0), (5, 0, 0)]
        for at, row in enumerate(paper):
            self.assertEqual(because((6, 1, 1), [(ALONG, ".")], stone, paper, row[0]), paper[:at + 1])

    def test_hidden_from_either_look(self):
        # The look 0 sees (1, 1, 0) behind (0, 1, 0), the look 1 behind (1, 0, 0).
        looks = [(ALONG, "?a"), ((0, 1, 0), "?b"), (AGAINST, ".."), (DOWN, "?.")]
        stone = [(0, 0, 0), (0, 1, 0), (1, 0, 0), (1, 1, 0)]
        first = [((1, 0, 0), 2, 2), ((0, 0, 0), 2, 2)]
        paper = first + [((1, 1, 0), 3, 3), ((0, 1, 0), 2, 2)]
        self.assertTrue(rows_stand((2, 2, 1), looks, stone, paper))
        self.assertEqual(because((2, 2, 1), looks, stone, paper, (1, 1, 0)), [paper[2]])
        self.assertEqual(because((2, 2, 1), looks, stone, paper, (0, 1, 0)), [paper[2], paper[3]])
        self.assertEqual(because((2, 2, 1), looks, stone, paper, (0, 0, 0)), first)
        looks = [(ALONG, "?a"), ((0, 1, 0), "?b"), (AGAINST, ".?"), (DOWN, ".?")]
        paper = [((1, 0, 0), 2, 2), ((0, 1, 0), 3, 3), ((1, 1, 0), 0, 1)]
        self.assertTrue(rows_stand((2, 2, 1), looks, stone, paper))
        self.assertEqual(because((2, 2, 1), looks, stone, paper, (1, 1, 0)), paper)
        self.assertEqual(because((2, 2, 1), looks, stone, paper, (0, 1, 0)), [paper[1]])

    def test_a_row_needs_what_its_rows_need(self):
        # (1, 1, 0) needs (0, 1, 0), which needs (0, 0, 0) from another look.
        looks = [(ALONG, ".."), ((0, 1, 0), ".?")]
        stone = plain_places((2, 2, 1))
        paper = [((0, 0, 0), 0, 0), ((1, 0, 0), 0, 0), ((0, 1, 0), 1, 1), ((1, 1, 0), 0, 0)]
        self.assertTrue(rows_stand((2, 2, 1), looks, stone, paper))
        self.assertEqual(because((2, 2, 1), looks, stone, paper, (1, 1, 0)), [paper[0], paper[2], paper[3]])

    def test_first_last_and_each_row_against_the_words(self):
        lengths = set()
        for sizes, looks, stone, left, paper in papers_of(200, [(2, 3, 2), (1, 1, 6), (4, 2, 2), (3, 1, 3)]):
            if not paper:
                continue
            first = self.check_because(sizes, looks, stone, paper, paper[0][0])
            self.assertEqual(first, [paper[0]])
            for row in paper:
                answer = self.check_because(sizes, looks, stone, paper, row[0])
                self.assertEqual(answer, plain_because(sizes, looks, stone, paper, row[0]))
                lengths.add(len(answer))
        self.assertGreater(len(lengths), 5)

    def test_no_faultless_paper_without_any_of_them_ends_with_the_row(self):
        tried, many = {}, 0
        for sizes, looks, stone, left, paper in papers_of(210, [(2, 2, 2), (3, 2, 1), (1, 1, 6)], FEW_WAYS[:8]):
            if not 3 <= len(paper) <= 8 or tried.get(sizes, 0) == 30:
                continue
            tried[sizes] = tried.get(sizes, 0) + 1
            for at, row in enumerate(paper):
                needed = self.check_because(sizes, looks, stone, paper, row[0])
                many = max(many, len(needed))
                for count in range(at + 1):
                    for some in combinations(paper[:at], count):
                        rows = [*some, row]
                        if rows_stand(sizes, looks, stone, rows):
                            self.assertTrue(all(each in rows for each in needed), (sizes, looks, stone, rows))
        self.assertEqual(list(tried.values()), [30, 30, 30])
        self.assertGreater(many, 4)

    def test_a_paper_of_bars_that_are_not_the_told_ones(self):
        looks = [(ALONG, "."), (AGAINST, ".")]
        paper = [((2, 0, 0), 1, 1), ((1, 0, 0), 1, 1), ((0, 0, 0), 1, 1)]
        self.assertEqual(because((3, 1, 1), looks, plain_places((3, 1, 1)), paper, (0, 0, 0)), paper)
        paper = [((2, 0, 0), 1, 1), ((0, 0, 0), 0, 0), ((1, 0, 0), 0, 0)]
        self.assertEqual(because((3, 1, 1), looks, plain_places((3, 1, 1)), paper, (1, 0, 0)), paper[1:])


class Answers(unittest.TestCase):
    def test_what_is_handed_in_stays_and_answers_are_the_askers_own(self):
        looks = [(ALONG, ".."), ((0, 1, 0), ".?")]
        stone = plain_places((2, 2, 1))
        left, paper = plain_carve((2, 2, 1), looks, stone, [2])
        for told in (left, stone):
            check_handed_stays(self, fault_of, (2, 2, 1), looks, stone, paper, told)
            check_handed_stays(self, fault_of, (2, 2, 1), looks, stone, paper[::-1], told)
        for row in paper:
            check_own_answer(self, because, (2, 2, 1), looks, stone, paper, row[0])

    def test_a_later_change_of_what_was_handed_in(self):
        looks, stone = [(ALONG, ".")], plain_places((3, 1, 1))
        paper = plain_carve((3, 1, 1), looks, stone, [])[1]
        answer = because((3, 1, 1), looks, stone, paper, (1, 0, 0))
        for handed in (looks, stone, paper):
            handed.clear()
        self.assertEqual(answer, [((0, 0, 0), 0, 0), ((1, 0, 0), 0, 0)])


class GreatBlock(unittest.TestCase):
    def test_each_answers_soon(self):
        sizes = (6, 6, 6)
        whole = plain_places(sizes)
        dice = Dice(220)
        skies = thrown_looks(dice, sizes, EIGHT_WAYS, ".")
        thrown = thrown_looks(dice, sizes, EIGHT_WAYS, SIGNS)
        for looks in (skies, thrown, great_looks(8)):
            for picks in ([], [-1] * 300):
                left, paper = carve(sizes, looks, whole, picks)
                self.assertGreater(len(paper), 30)
                self.assertIsNone(check_soon(self, fault_of, sizes, looks, whole, paper, left))
                answer = check_soon(self, because, sizes, looks, whole, paper, paper[-1][0])
                self.assertEqual(answer, plain_because(sizes, looks, whole, paper, paper[-1][0]))
                left = [grain for grain in whole if grain not in [row[0] for row in answer]]
                self.assertIsNone(fault_of(sizes, looks, whole, answer, left))
                if len(answer) > 1:
                    self.assertIsNotNone(fault_of(sizes, looks, whole, answer[1:], left))


if __name__ == "__main__":
    unittest.main()
