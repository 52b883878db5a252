"""Point 20: deeds taken back and done again, and twins."""

import unittest

from plain_looks import Dice
from plain_shop import PlainShop, answers_of, moments_of, refusal_of, thrown_deed
from samples import FEW_WAYS, plain_places
from sightstone.errors import NothingAgain, NothingBack, SightError
from sightstone.workshop import Workshop

ALONG, AGAINST, DOWN = (1, 0, 0), (-1, 0, 0), (0, -1, 0)

# One deed of each kind and some that change nothing, in an order in which none is refused.
DEEDS = [
    ("finish", [3]), ("eye", "a", ALONG, ".?"), ("eye", "b", AGAINST, "?b"), ("keep", (1, 0, 0)), ("chip", (0, 0, 0)),
    ("drop", (0, 0, 0)), ("repaint", "b", 0, "b"), ("repaint", "b", 0, "b"), ("finish", []), ("finish", [1, 2]),
    ("drop", (2, 1, 0)), ("free", (1, 0, 0)), ("eye", "c", DOWN, ".a."), ("chip", (0, 1, 0)), ("finish", [-1]),
    ("free", (0, 0, 0)), ("finish", [5]), ("repaint", "b", 1, "?"), ("finish", [0]), ("shut", "a"), ("keep", (2, 0, 0)),
    ("finish", [-2, 7]),
]

REFUSED = [
    ("eye", "A", ALONG, "??"), ("eye", "b", ALONG, "??"), ("eye", "z", (0, 0, 0), "??"), ("eye", "z", ALONG, "?"),
    ("shut", "z"), ("repaint", "z", 0, "a"), ("repaint", "b", -1, "a"), ("repaint", "b", 0, ""), ("drop", (9, 0, 0)),
    ("keep", (0, 0, 1)), ("drop", (1, 0, 0)), ("keep", (1, 0, 0)), ("free", (0, 0, -1)), ("free", (2, 1, 0)),
    ("chip", (3, 0, 0)), ("chip", (2, 1, 0)),
]


def do(shop, deed):
    return getattr(shop, deed[0])(*deed[1:])


def shop_after(deeds):
    shop = Workshop((3, 2, 1))
    for deed in deeds:
        do(shop, deed)
    return shop


class BackAndAgain(unittest.TestCase):
    def test_all_deeds_taken_back_and_done_again_one_by_one(self):
        moments = [answers_of(shop_after(DEEDS[:many])) for many in range(len(DEEDS) + 1)]
        shop = shop_after(DEEDS)
        for turn in range(2):
            for moment in moments[-2::-1]:
                self.assertIsNone(shop.back())
                self.assertEqual(answers_of(shop), moment)
            self.assertRaises(NothingBack, shop.back)
            self.assertEqual(answers_of(shop), moments[0])
            for moment in moments[1:]:
                self.assertIsNone(shop.again())
                self.assertEqual(answers_of(shop), moment)
            self.assertRaises(NothingAgain, shop.again)
            self.assertEqual(answers_of(shop), moments[-1])

    def test_the_moments_differ(self):
        """So that the test above can tell them apart: only the deeds that change nothing leave one like the last."""
        moments = [answers_of(shop_after(DEEDS[:many])) for many in range(len(DEEDS) + 1)]
        same = [DEEDS[at] for at in range(len(DEEDS)) if moments[at] == moments[at + 1]]
        self.assertEqual(same, [("finish", [3]), ("repaint", "b", 0, "b"), ("finish", [1, 2])])

    def test_back_and_again_by_turns(self):
        for many in range(1, len(DEEDS) + 1):
            shop = shop_after(DEEDS[:many])
            after = answers_of(shop)
            for turn in range(2):
                shop.back()
                self.assertEqual(answers_of(shop), answers_of(shop_after(DEEDS[:many - 1])))
                shop.again()
                self.assertEqual(answers_of(shop), after)

    def test_a_deed_behind_a_taking_back_lets_the_later_ones_go(self):
        for taken in (1, 3, 6, len(DEEDS)):
            for deed in (("finish", []), ("eye", "zz", ALONG, "??"), ("keep", (0, 1, 0))):
                shop = shop_after(DEEDS)
                for turn in range(taken):
                    shop.back()
                before = answers_of(shop)
                do(shop, deed)
                after = answers_of(shop)
                self.assertRaises(NothingAgain, shop.again)
                shop.back()
                self.assertEqual(answers_of(shop), before)
                shop.again()
                self.assertEqual(answers_of(shop), after)
                self.assertRaises(NothingAgain, shop.again)
                self.assertEqual(len(moments_of(shop)[0]), len(DEEDS) - taken + 1)

    def test_a_deed_that_changes_nothing_lets_the_later_ones_go(self):
        shop = shop_after([("finish", []), ("drop", (0, 0, 0))])
        shop.back()
        shop.finish([4])
        self.assertRaises(NothingAgain, shop.again)
        shop.back()
        shop.back()
        self.assertRaises(NothingBack, shop.back)

    def test_a_refused_deed_does_not(self):
        shop = shop_after(DEEDS[:5])
        shop.back()
        before, moments = answers_of(shop), moments_of(shop)
        for deed in REFUSED:
            with self.subTest(deed), self.assertRaises(SightError):
                do(shop, deed)
            self.assertEqual((answers_of(shop), moments_of(shop)), (before, moments), deed)
        shop.again()
        self.assertEqual(shop.paper(), [((0, 0, 0), 0, 0)])

    def test_asking_does_not(self):
        shop = shop_after(DEEDS)
        for turn in range(4):
            shop.back()
        moments = moments_of(shop)
        answers_of(shop)
        refusal_of(shop.why, (9, 9, 9))
        refusal_of(shop.look, "zz")
        shop.twin()
        self.assertEqual(moments_of(shop), moments)
        self.assertEqual(len(moments[1]), 4)

    def test_refused_steps_change_nothing(self):
        shop = shop_after(DEEDS[:3])
        before = answers_of(shop)
        for turn in range(3):
            self.assertRaises(NothingAgain, shop.again)
        self.assertEqual(answers_of(shop), before)
        for turn in range(3):
            shop.back()
        for turn in range(3):
            self.assertRaises(NothingBack, shop.back)
        self.assertEqual(len(moments_of(shop)[1]), 3)
        for turn in range(3):
            shop.again()
        self.assertEqual(answers_of(shop), before)


class Twins(unittest.TestCase):
    def test_a_twin_is_the_same(self):
        for many in range(0, len(DEEDS) + 1, 3):
            for taken in range(0, many + 1, 4):
                shop = shop_after(DEEDS[:many])
                for turn in range(taken):
                    shop.back()
                other = shop.twin()
                self.assertIs(type(other), Workshop)
                self.assertIsNot(other, shop)
                self.assertEqual(answers_of(other), answers_of(shop))
                self.assertEqual(moments_of(other), moments_of(shop))
                self.assertEqual([len(moments) for moments in moments_of(other)], [many - taken, taken])

    def check_own_way(self, moving, staying):
        before, moments = answers_of(staying), moments_of(staying)
        for deed in [
            ("back",), ("back",), ("again",), ("again",), ("again",), ("back",), ("eye", "q", DOWN, "..."),
            ("finish", [2]), ("keep", (0, 1, 0)), ("free", (0, 1, 0)), ("drop", (0, 1, 0)), ("repaint", "q", 0, "?"),
            ("back",), ("shut", "b"), ("finish", []),
        ]:
            do(moving, deed)
            self.assertEqual((answers_of(staying), moments_of(staying)), (before, moments), deed)

    def test_it_goes_its_own_way_both_ways_about(self):
        for about in range(2):
            shop = shop_after(DEEDS[:15])
            for turn in range(3):
                shop.back()
            pair = [shop, shop.twin()]
            self.check_own_way(pair[about], pair[1 - about])
            self.assertNotEqual(answers_of(pair[0]), answers_of(pair[1]))
            self.check_own_way(pair[1 - about], pair[about])

    def test_twins_of_twins(self):
        shop = shop_after(DEEDS[:8])
        one = shop.twin()
        one.back()
        other = one.twin()
        other.back()
        self.assertEqual([len(moments_of(each)[0]) for each in (shop, one, other)], [8, 7, 6])
        self.assertEqual([len(moments_of(each)[1]) for each in (shop, one, other)], [0, 1, 2])


class AgainstTheWords(unittest.TestCase):
    def test_lives_with_much_taken_back_and_twins(self):
        for seed in range(24):
            dice = Dice(seed + 700)
            sizes = [(2, 2, 1), (3, 1, 2), (2, 2, 2)][seed % 3]
            pairs = [(Workshop(sizes), PlainShop(sizes))]
            for turn in range(70):
                shop, plain = dice.one_of(pairs)
                deed, handed = thrown_deed(dice, sizes, ["a", "b", "c"], FEW_WAYS)
                if dice.below(5) < 3:
                    deed, handed = dice.one_of(["back", "again", "back", "again", "back", "twin"]), ()
                if deed == "twin" and len(pairs) < 4:
                    pairs.append((shop.twin(), plain.twin()))
                else:
                    refusal = refusal_of(getattr(shop, deed), *handed)
                    self.assertEqual(refusal, refusal_of(getattr(plain, deed), *handed), (seed, turn, deed, handed))
                for shop, plain in pairs:
                    self.assertEqual(answers_of(shop, False), answers_of(plain, False), (seed, turn, deed, handed))
            for shop, plain in pairs:
                self.assertEqual(moments_of(shop), moments_of(plain))


class GreatBlock(unittest.TestCase):
    def test_a_long_life(self):
        shop = Workshop((6, 6, 6))
        shop.eye("a", ALONG, "." * 36)
        for place in plain_places((6, 6, 6)):
            shop.chip(place)
        other = shop.twin()
        for turn in range(217):
            shop.back()
        self.assertRaises(NothingBack, shop.back)
        self.assertEqual(shop.standing(), plain_places((6, 6, 6)))
        self.assertEqual((len(other.paper()), other.standing()), (216, []))
        for turn in range(217):
            shop.again()
        self.assertEqual(shop.paper(), other.paper())


if __name__ == "__main__":
    unittest.main()
