"""Points 18, 19 and 21: eyes, deeds, the end and its reasons; with point 1 for what is handed in and answered."""

import unittest
from copy import deepcopy

from plain_looks import Dice, EIGHT_WAYS, great_looks, plain_carve, thrown_looks
from plain_papers import plain_because, rows_stand
from plain_shop import LISTS, PlainShop, answers_of, moments_of, refusal_of, thrown_deed
from samples import (
    BLOCKS, FEW_WAYS, GREAT, all_triples, check_plain_tuple, check_soon, check_stone, is_way, plain_places,
)
from sightstone.agree import agrees, barred
from sightstone.errors import (
    BadBlock, BadDirection, BadName, BadPicture, BadSign, BadSpot, Contrary, NoGrain, NoPlace, NotBarred, NotCarved,
    NothingAgain, NothingBack, Taken, TooMany, Unknown, Unsaid,
)
from sightstone.workshop import Workshop
from test_names import BAD_NAMES, GOOD_NAMES

ALONG, AGAINST, UP, DOWN = (1, 0, 0), (-1, 0, 0), (0, 1, 0), (0, -1, 0)

METHODS = {
    "eye": ["name", "way", "picture"], "shut": ["name"], "repaint": ["name", "spot", "sign"], "drop": ["place"],
    "keep": ["place"], "free": ["place"], "chip": ["place"], "finish": ["picks"], "back": [], "again": [],
    "twin": [], "block": [], "names": [], "look": ["name"], "looks": [], "gone": [], "sure": [], "standing": [],
    "paper": [], "end": [], "quarrel": [], "loose": [], "why": ["place"],
}

OUTSIDE = [(2, 0, 0), (0, 2, 0), (0, 0, 1), (-1, 0, 0), (0, -1, 0), (0, 0, -1), (GREAT, 0, 0), (0, -GREAT, 5)]

MANY_PICKS = [[], [1], [2, 1], [0, 0, 3], [-1] * 50, [-7, 4, -2], list(range(100)), [GREAT, -GREAT, GREAT + 1]]


def shop_of(sizes, *eyes):
    """A workshop with eyes called a, b, c and so on."""
    shop = Workshop(sizes)
    for name, (way, picture) in zip("abcdefgh", eyes):
        shop.eye(name, way, picture)
    return shop


def sky_shop():
    """The block of two by two places, whose lines along x are sky for one eye and veiled for another one."""
    return shop_of((2, 2, 1), (ALONG, ".?"), (AGAINST, "??"))


class CheckDeeds(unittest.TestCase):
    def check_refused(self, shop, error, deed, *handed):
        """The deed is refused, changes nothing and counts for nothing."""
        before, kept, moments = answers_of(shop), deepcopy(handed), moments_of(shop)
        with self.subTest(deed=deed, handed=handed), self.assertRaises(error) as held:
            getattr(shop, deed)(*handed)
        self.assertIs(type(held.exception), error)
        self.assertEqual(answers_of(shop), before)
        self.assertEqual(moments_of(shop), moments)
        self.assertEqual(handed, kept)

    def check_done(self, shop, deed, *handed, **changed):
        """The deed answers None, counts as one and changes these answers alone; it can be taken back and done again."""
        before, kept = answers_of(shop, False), deepcopy(handed)
        behind = moments_of(shop)[0]
        self.assertIsNone(getattr(shop, deed)(*handed))
        self.assertEqual(handed, kept)
        after = answers_of(shop, False)
        self.assertEqual(moments_of(shop), ([before] + behind, []))
        for name in ("names", "looks", "gone", "sure", "standing", "paper"):
            self.assertEqual(after[name], changed.get(name, before[name]), (deed, handed, name))
        self.assertIsNone(shop.back())
        self.assertEqual(answers_of(shop, False), before)
        self.assertIsNone(shop.again())
        self.assertEqual(answers_of(shop, False), after)


class Interface(CheckDeeds):
    def test_each_method_stands_in_the_class_with_its_arguments(self):
        for name, names in METHODS.items():
            code = vars(Workshop)[name].__code__
            self.assertEqual(list(code.co_varnames[1:code.co_argcount]), names, name)
            self.assertEqual(code.co_kwonlyargcount, 0)
            self.assertIsNone(vars(Workshop)[name].__defaults__)

    def test_bad_blocks_are_refused(self):
        for sizes in [(), (1,), (1, 2), (1, 2, 3, 4), (0, 1, 1), (1, 7, 1), (1, 1, -1), (GREAT, 1, 1), (6, 6, 7)]:
            for handed in (sizes, list(sizes)):
                with self.subTest(handed), self.assertRaises(BadBlock):
                    Workshop(handed)

    def test_a_new_workshop(self):
        for sizes in BLOCKS + [(6, 6, 6)]:
            for handed in (sizes, list(sizes)):
                shop = Workshop(handed)
                check_plain_tuple(self, shop.block())
                self.assertEqual(shop.block(), sizes)
                whole = plain_places(sizes)
                for name in LISTS:
                    wanted = whole if name in ("standing", "end") else []
                    self.assertEqual(getattr(shop, name)(), wanted, name)
                    self.assertIs(type(getattr(shop, name)()), list)
                self.check_nothing_known(shop, whole)

    def check_nothing_known(self, shop, whole):
        for place in (whole[0], list(whole[-1])):
            self.assertEqual(refusal_of(shop.why, place), "NotCarved")
            self.assertEqual(refusal_of(shop.chip, place), "NotBarred")
            self.assertEqual(refusal_of(shop.free, place), "Unsaid")
        for name in ("a", "", "A", "a" * 13):
            for method in (shop.look, shop.shut):
                self.assertEqual(refusal_of(method, name), "Unknown")
            self.assertEqual(refusal_of(shop.repaint, name, 0, "a"), "Unknown")
        self.assertEqual(refusal_of(shop.back), "NothingBack")
        self.assertEqual(refusal_of(shop.again), "NothingAgain")


class Eyes(CheckDeeds):
    def test_bad_names(self):
        for name in BAD_NAMES:
            self.check_refused(Workshop((1, 1, 2)), BadName, "eye", name, (0, 0, 1), "?")

    def test_good_names(self):
        for name in GOOD_NAMES:
            shop = Workshop((1, 1, 2))
            self.check_done(shop, "eye", name, (0, 0, 1), "k", names=[name], looks=[((0, 0, 1), "k")])
            self.assertEqual(shop.look(name), ((0, 0, 1), "k"))

    def test_eight_eyes_and_a_ninth(self):
        shop = Workshop((2, 1, 1))
        looks = []
        for name in "hgfedcba":
            looks.append((ALONG, name))
            self.check_done(shop, "eye", name, ALONG, name, names=shop.names() + [name], looks=list(looks))
        self.assertEqual(shop.names(), list("hgfedcba"))
        self.check_refused(shop, TooMany, "eye", "i", ALONG, "?")
        shop.shut("e")
        shop.eye("i", AGAINST, "?")
        self.assertEqual(shop.names(), list("hgfdcbai"))
        self.check_refused(shop, TooMany, "eye", "e", ALONG, "?")

    def test_a_name_that_is_there(self):
        shop = shop_of((2, 1, 1), (ALONG, "a"), (AGAINST, "b"))
        for name in "ab":
            self.check_refused(shop, Taken, "eye", name, DOWN, "??")
        shop.shut("a")
        shop.eye("a", ALONG, "c")
        self.assertEqual(shop.names(), ["b", "a"])
        self.assertEqual(shop.looks(), [(AGAINST, "b"), (ALONG, "c")])

    def test_bad_ways(self):
        shop = Workshop((2, 1, 1))
        bad = [(), (1,), (1, 0), (1, 0, 0, 0), (0, 0, 0), (2, 0, 0), (0, -2, 2), (4, 1, 0), (0, 1, -4), (GREAT, 1, 0)]
        for way in bad + [triple for triple in all_triples(-4, 4)[::7] if not is_way(triple)]:
            self.check_refused(shop, BadDirection, "eye", "a", way, "?")
            self.check_refused(shop, BadDirection, "eye", "a", list(way), "?")

    def test_bad_pictures(self):
        shop = Workshop((2, 2, 1))
        for picture in ["", "?", "???", "a", "aA", "a ", "a\n", "\n\n", "a1", "a-", "ab ", " ab", "??\n"]:
            self.check_refused(shop, BadPicture, "eye", "a", ALONG, picture)
            self.check_refused(shop, BadPicture, "eye", "a", [1, 0, 0], picture)

    def test_refusals_in_the_told_order(self):
        full = shop_of((2, 1, 1), *[(ALONG, "?")] * 8)
        for bad in ("", "A", "a" * 13):
            self.check_refused(full, BadName, "eye", bad, ALONG, "?")
            self.check_refused(full, BadName, "eye", bad, (2, 2, 2), "!")
        self.check_refused(full, Taken, "eye", "h", ALONG, "?")
        self.check_refused(full, Taken, "eye", "h", (0, 0, 0), "!")
        self.check_refused(full, TooMany, "eye", "i", (0, 0, 0), "!")
        self.check_refused(full, TooMany, "eye", "i", ALONG, "!")
        shop = shop_of((2, 1, 1), (ALONG, "?"))
        self.check_refused(shop, BadName, "eye", "A", (0, 0, 0), "?")
        self.check_refused(shop, Taken, "eye", "a", (0, 0, 0), "?")
        self.check_refused(shop, Taken, "eye", "a", ALONG, "!")
        self.check_refused(shop, BadDirection, "eye", "b", (0, 0, 0), "!")
        self.check_refused(shop, BadDirection, "eye", "b", [1, 0], "")

    def test_ways_as_lists_and_as_tuples(self):
        shop = Workshop((2, 2, 1))
        way = [1, -1, 0]
        shop.eye("a", way, "ab?")
        way[0] = 0
        shop.eye("b", tuple(way), "a?")
        self.assertEqual(shop.looks(), [((1, -1, 0), "ab?"), ((0, -1, 0), "a?")])
        for look in shop.looks() + [shop.look("a")]:
            self.assertIs(type(look), tuple)
            check_plain_tuple(self, look[0])

    def test_an_eye_leaves_stone_and_paper(self):
        shop = sky_shop()
        shop.finish([])
        paper = [((0, 0, 0), 0, 0), ((1, 0, 0), 0, 0)]
        self.assertEqual(shop.paper(), paper)
        names, looks = ["a", "b", "c"], shop.looks() + [(DOWN, "..")]
        self.check_done(shop, "eye", "c", DOWN, "..", names=names, looks=looks)
        self.assertEqual(shop.standing(), [(0, 1, 0), (1, 1, 0)])
        self.assertEqual(shop.loose(), [((0, 1, 0), 2, 2), ((1, 1, 0), 2, 2)])
        self.assertEqual(shop.end(), [])

    def test_unknown_names(self):
        shop = shop_of((2, 1, 1), (ALONG, "a"))
        for name in ["b", "", "A", "aa", "a ", "a\n"]:
            self.check_refused(shop, Unknown, "look", name)
            self.check_refused(shop, Unknown, "shut", name)
            self.check_refused(shop, Unknown, "repaint", name, 0, "a")
            self.check_refused(shop, Unknown, "repaint", name, 5, "")

    def test_shut_carves_anew(self):
        shop = sky_shop()
        shop.drop((1, 1, 0))
        shop.keep((1, 0, 0))
        shop.finish([])
        self.assertEqual(shop.standing(), [(0, 1, 0)])
        anew = [(0, 0, 0), (0, 1, 0), (1, 0, 0)]
        self.check_done(
            shop, "shut", "b", names=["a"], looks=[(ALONG, ".?")], standing=anew, paper=[])
        shop.finish([])
        self.check_done(shop, "shut", "a", names=[], looks=[], standing=anew, paper=[])
        self.assertEqual((shop.gone(), shop.sure()), ([(1, 1, 0)], [(1, 0, 0)]))
        self.check_refused(shop, Unknown, "shut", "a")


class Repaint(CheckDeeds):
    def carved(self):
        shop = shop_of((2, 2, 1), (ALONG, ".?"), (AGAINST, "?b"))
        shop.drop((1, 1, 0))
        shop.finish([])
        self.assertEqual(shop.standing(), [(0, 1, 0)])
        self.assertEqual(len(shop.paper()), 2)
        return shop

    def test_over_a_veil_stone_and_paper_stay(self):
        for sign in "abz.?":
            self.check_done(
                self.carved(), "repaint", "a", 1, sign, looks=[(ALONG, "." + sign), (AGAINST, "?b")])
            self.check_done(
                self.carved(), "repaint", "b", 0, sign, looks=[(ALONG, ".?"), (AGAINST, sign + "b")])

    def test_over_the_same_sign_all_stays(self):
        self.check_done(self.carved(), "repaint", "a", 0, ".")
        self.check_done(self.carved(), "repaint", "b", 1, "b")
        self.check_done(self.carved(), "repaint", "a", 1, "?")

    def test_over_another_sign_and_by_a_veil_carves_anew(self):
        anew = [(0, 0, 0), (0, 1, 0), (1, 0, 0)]
        for sign in "az?":
            self.check_done(
                self.carved(), "repaint", "a", 0, sign, looks=[(ALONG, sign + "?"), (AGAINST, "?b")],
                standing=anew, paper=[])
        for sign in "ac.?":
            self.check_done(
                self.carved(), "repaint", "b", 1, sign, looks=[(ALONG, ".?"), (AGAINST, "?" + sign)],
                standing=anew, paper=[])

    def test_carving_anew_where_nothing_was_carved_off(self):
        shop = shop_of((2, 1, 1), (ALONG, "a"))
        self.check_done(shop, "repaint", "a", 0, "b", looks=[(ALONG, "b")])

    def test_spots(self):
        shop = shop_of((3, 2, 2), (ALONG, "????"))
        for spot in (-1, -4, -5, 4, 5, GREAT, -GREAT):
            self.check_refused(shop, BadSpot, "repaint", "a", spot, "a")
            self.check_refused(shop, BadSpot, "repaint", "a", spot, "")
            self.check_refused(shop, BadSpot, "repaint", "a", spot, "ab")
        self.check_done(shop, "repaint", "a", 0, "a", looks=[(ALONG, "a???")])
        self.check_done(shop, "repaint", "a", 3, "z", looks=[(ALONG, "a??z")])
        self.check_done(shop, "repaint", "a", 1, ".", looks=[(ALONG, "a.?z")])

    def test_bad_signs(self):
        shop = self.carved()
        for sign in ["", "A", " ", "\n", "1", "-", "!", "{", "ab", "aa", "..", "??", "a\n", ".a", "abc"]:
            for spot in (0, 1):
                self.check_refused(shop, BadSign, "repaint", "a", spot, sign)

    def test_the_name_of_an_eye_and_its_place_stay(self):
        shop = shop_of((2, 1, 1), (ALONG, "a"), (AGAINST, "b"), (ALONG, "c"))
        shop.repaint("b", 0, "z")
        self.assertEqual(shop.names(), ["a", "b", "c"])
        self.assertEqual(shop.looks(), [(ALONG, "a"), (AGAINST, "z"), (ALONG, "c")])


class Sayings(CheckDeeds):
    def test_places_outside(self):
        shop = sky_shop()
        for place in OUTSIDE:
            for handed in (place, list(place)):
                for deed in ("drop", "keep", "free", "chip", "why"):
                    self.check_refused(shop, NoPlace, deed, handed)

    def test_drop_of_a_grain(self):
        for handed in ((1, 1, 0), [1, 1, 0]):
            shop = sky_shop()
            self.check_done(
                shop, "drop", handed, gone=[(1, 1, 0)], standing=[(0, 0, 0), (0, 1, 0), (1, 0, 0)])
            check_stone(self, shop.gone())

    def test_drop_of_a_chipped_grain_takes_its_row_from_the_paper(self):
        shop = sky_shop()
        shop.finish([])
        rows = shop.paper()
        self.assertEqual(rows, [((0, 0, 0), 0, 0), ((1, 0, 0), 0, 0)])
        self.check_done(shop, "drop", (0, 0, 0), gone=[(0, 0, 0)], paper=rows[1:])
        self.check_done(shop, "drop", (1, 0, 0), gone=[(0, 0, 0), (1, 0, 0)], paper=[])
        self.assertEqual(shop.standing(), [(0, 1, 0), (1, 1, 0)])

    def test_gone_and_sure_rise(self):
        shop = Workshop((2, 2, 2))
        for place in [(1, 0, 1), (0, 1, 0), (1, 1, 1), (0, 0, 1)]:
            shop.drop(place)
        for place in [(1, 1, 0), [0, 0, 0], (0, 1, 1)]:
            shop.keep(place)
        self.assertEqual(shop.gone(), [(0, 0, 1), (0, 1, 0), (1, 0, 1), (1, 1, 1)])
        self.assertEqual(shop.sure(), [(0, 0, 0), (0, 1, 1), (1, 1, 0)])
        self.assertEqual(shop.standing(), [(0, 0, 0), (0, 1, 1), (1, 0, 0), (1, 1, 0)])
        check_stone(self, shop.sure())

    def test_drop_and_keep_of_what_is_said_already(self):
        shop = sky_shop()
        shop.drop((0, 1, 0))
        shop.keep([1, 0, 0])
        for place in ((0, 1, 0), (1, 0, 0)):
            for handed in (place, list(place)):
                for deed in ("drop", "keep"):
                    self.check_refused(shop, Contrary, deed, handed)

    def test_keep_changes_nothing_else(self):
        shop = sky_shop()
        shop.chip((0, 0, 0))
        for at, place in enumerate([(0, 1, 0), (1, 0, 0)]):
            self.check_done(shop, "keep", place, sure=[(0, 1, 0), (1, 0, 0)][:at + 1])
        # A place that was chipped off may be kept, too.
        self.check_done(shop, "keep", [0, 0, 0], sure=[(0, 0, 0), (0, 1, 0), (1, 0, 0)])

    def test_a_sure_place_is_carved_off_all_the_same(self):
        shop = sky_shop()
        shop.keep((0, 0, 0))
        shop.keep((1, 0, 0))
        self.check_done(
            shop, "chip", (0, 0, 0), standing=[(0, 1, 0), (1, 0, 0), (1, 1, 0)], paper=[((0, 0, 0), 0, 0)])
        shop.finish([])
        self.assertEqual(shop.sure(), [(0, 0, 0), (1, 0, 0)])
        self.assertEqual(shop.standing(), [(0, 1, 0), (1, 1, 0)])

    def test_free_of_a_gone_place_carves_anew(self):
        for handed in ((1, 1, 0), [1, 1, 0]):
            shop = sky_shop()
            shop.drop((1, 1, 0))
            shop.drop((0, 1, 0))
            shop.keep((1, 0, 0))
            shop.finish([])
            anew = [(0, 0, 0), (1, 0, 0), (1, 1, 0)]
            self.check_done(shop, "free", handed, gone=[(0, 1, 0)], standing=anew, paper=[])

    def test_free_of_a_sure_place_changes_nothing_else(self):
        for handed in ((1, 1, 0), [1, 1, 0]):
            shop = sky_shop()
            shop.drop((0, 1, 0))
            shop.keep((1, 0, 0))
            shop.keep((1, 1, 0))
            shop.finish([])
            self.check_done(shop, "free", handed, sure=[(1, 0, 0)])
        self.check_refused(shop, Unsaid, "free", handed)

    def test_free_where_nothing_is_said(self):
        shop = sky_shop()
        shop.chip((0, 0, 0))
        for place in plain_places((2, 2, 1)):
            self.check_refused(shop, Unsaid, "free", place)
            self.check_refused(shop, Unsaid, "free", list(place))

    def test_a_freed_place_may_be_said_anew(self):
        shop = sky_shop()
        shop.drop((0, 1, 0))
        shop.free((0, 1, 0))
        shop.keep((0, 1, 0))
        self.assertEqual((shop.gone(), shop.sure()), ([], [(0, 1, 0)]))
        shop.free((0, 1, 0))
        shop.drop((0, 1, 0))
        self.assertEqual((shop.gone(), shop.sure()), ([(0, 1, 0)], []))

    def test_places_handed_as_lists_are_not_held(self):
        shop = Workshop((2, 2, 1))
        gone, sure = [0, 1, 0], [1, 0, 0]
        shop.drop(gone)
        shop.keep(sure)
        gone[0], sure[1] = 1, 1
        self.assertEqual((shop.gone(), shop.sure()), ([(0, 1, 0)], [(1, 0, 0)]))
        check_stone(self, shop.gone())
        check_stone(self, shop.sure())


class Chips(CheckDeeds):
    def test_chip_of_a_barred_grain(self):
        for handed in ((0, 0, 0), [0, 0, 0]):
            shop = sky_shop()
            rest = [(0, 1, 0), (1, 0, 0), (1, 1, 0)]
            self.check_done(shop, "chip", handed, standing=rest, paper=[((0, 0, 0), 0, 0)])
            self.check_refused(shop, NoGrain, "chip", handed)
            self.check_done(
                shop, "chip", (1, 0, 0), standing=rest[::2], paper=[((0, 0, 0), 0, 0), ((1, 0, 0), 0, 0)])

    def test_chip_of_a_grain_that_is_not_barred(self):
        shop = sky_shop()
        for place in [(0, 1, 0), (1, 0, 0), [1, 1, 0]]:
            self.check_refused(shop, NotBarred, "chip", place)

    def test_chip_of_no_grain(self):
        shop = sky_shop()
        shop.drop((0, 1, 0))
        shop.chip((0, 0, 0))
        for place in ((0, 0, 0), (0, 1, 0)):
            self.check_refused(shop, NoGrain, "chip", place)
            self.check_refused(shop, NoGrain, "chip", list(place))

    def test_the_bar_is_that_of_the_standing_stone(self):
        shop = shop_of((2, 2, 1), (ALONG, "?."), (DOWN, "?."))
        shop.chip((1, 1, 0))
        shop.chip((0, 1, 0))
        self.assertEqual(shop.paper(), [((1, 1, 0), 1, 1), ((0, 1, 0), 0, 0)])
        shop.back()
        shop.back()
        shop.chip((0, 1, 0))
        shop.chip((1, 1, 0))
        self.assertEqual(shop.paper(), [((0, 1, 0), 0, 0), ((1, 1, 0), 0, 0)])

    def test_unlike_letters(self):
        shop = shop_of((1, 1, 1), (ALONG, "?"), (AGAINST, "a"), (UP, "a"), (DOWN, "b"))
        shop.chip((0, 0, 0))
        self.assertEqual((shop.standing(), shop.paper()), ([], [((0, 0, 0), 1, 3)]))

    def test_finish_by_picks(self):
        for picks in MANY_PICKS:
            for chipped in ([], [(1, 1, 0)]):
                shop = shop_of((2, 2, 2), ((0, 0, 1), ".?.."), (ALONG, "?.ab"), (AGAINST, "??.c"))
                for place in chipped:
                    shop.chip(place)
                left, rows = plain_carve((2, 2, 2), shop.looks(), shop.standing(), picks)
                self.assertGreater(len(rows), 3)
                self.check_done(shop, "finish", picks, standing=left, paper=shop.paper() + rows)
                self.assertEqual(shop.loose(), [])
                self.check_done(shop, "finish", picks)

    def test_finish_that_has_nothing_to_do_counts_as_a_deed(self):
        for picks in MANY_PICKS:
            shop = Workshop((2, 2, 1))
            self.check_done(shop, "finish", picks)
            shop.back()
            self.assertRaises(NothingBack, shop.back)
            shop.again()
            self.assertRaises(NothingAgain, shop.again)

    def test_the_picks_are_not_held(self):
        shop = shop_of((2, 1, 1), (ALONG, "."))
        picks = [1, 2]
        shop.finish(picks)
        picks.clear()
        shop.back()
        shop.again()
        self.assertEqual(shop.paper(), [((0, 0, 0), 0, 0), ((1, 0, 0), 0, 0)])


class TheEnd(CheckDeeds):
    def test_quarrel_with_sure_places_that_the_end_has_and_lacks(self):
        shop = sky_shop()
        for place in [(1, 1, 0), (1, 0, 0), (0, 0, 0)]:
            shop.keep(place)
        for turn in range(3):
            self.assertEqual(shop.end(), [(0, 1, 0), (1, 1, 0)])
            self.assertEqual(shop.quarrel(), [(0, 0, 0), (1, 0, 0)])
            check_stone(self, shop.quarrel())
            if turn == 0:
                shop.chip((0, 0, 0))
            else:
                shop.finish([])
        shop.free((0, 0, 0))
        self.assertEqual(shop.quarrel(), [(1, 0, 0)])
        shop.repaint("a", 0, "?")
        self.assertEqual(shop.quarrel(), [])

    def test_no_quarrel(self):
        shop = sky_shop()
        self.assertEqual(shop.quarrel(), [])
        shop.keep((0, 1, 0))
        self.assertEqual(shop.quarrel(), [])

    def test_why(self):
        shop = shop_of((3, 2, 1), (ALONG, ".?"), (UP, "?.?"))
        shop.chip((0, 0, 0))
        rows = [((0, 0, 0), 0, 0), ((1, 0, 0), 0, 0), ((1, 1, 0), 1, 1), ((2, 0, 0), 0, 0)]
        for turn in range(2):
            # A place of the paper, then ones that go only later.
            self.assertEqual(shop.why((0, 0, 0)), rows[:1])
            self.assertEqual(shop.why([0, 0, 0]), rows[:1])
            self.assertEqual(shop.why((1, 0, 0)), rows[:2])
            self.assertEqual(shop.why((1, 1, 0)), rows[:3])
            self.assertEqual(shop.why([2, 0, 0]), [rows[0], rows[1], rows[3]])
            for place in ((0, 1, 0), (2, 1, 0)):
                self.check_refused(shop, NotCarved, "why", place)
                self.check_refused(shop, NotCarved, "why", list(place))
            shop.finish([])

    def test_why_of_a_gone_place_and_of_one_whose_hiders_are_gone(self):
        shop = shop_of((3, 2, 1), (ALONG, ".?"), (UP, "?.?"))
        shop.drop((0, 0, 0))
        self.check_refused(shop, NotCarved, "why", (0, 0, 0))
        self.assertEqual(shop.why((1, 0, 0)), [((1, 0, 0), 0, 0)])
        self.assertEqual(shop.why((2, 0, 0)), [((1, 0, 0), 0, 0), ((2, 0, 0), 0, 0)])
        shop.finish([])
        shop.drop((1, 0, 0))
        self.check_refused(shop, NotCarved, "why", (1, 0, 0))
        self.assertEqual(shop.why((2, 0, 0)), [((2, 0, 0), 0, 0)])

    def test_why_follows_the_papers_own_rows(self):
        shop = shop_of((3, 1, 1), (ALONG, "."), (AGAINST, "."))
        shop.chip((2, 0, 0))
        shop.chip((1, 0, 0))
        self.assertEqual(shop.why((1, 0, 0)), [((2, 0, 0), 1, 1), ((1, 0, 0), 1, 1)])
        # In the stone as it is then the look 0 sees it, too.
        self.assertEqual(shop.why((0, 0, 0)), [((0, 0, 0), 0, 0)])

    def test_a_sure_place_may_be_asked_why(self):
        shop = sky_shop()
        shop.keep((1, 0, 0))
        self.assertEqual(shop.why((1, 0, 0)), [((0, 0, 0), 0, 0), ((1, 0, 0), 0, 0)])

    def test_the_end_is_what_finish_leaves_whatever_the_picks(self):
        for seed in range(40):
            dice = Dice(seed)
            sizes = dice.one_of([(2, 2, 2), (3, 2, 1), (2, 3, 2)])
            shop = shop_of(sizes, *thrown_looks(dice, sizes, [dice.one_of(FEW_WAYS) for turn in range(4)], "ab.??"))
            for turn in range(dice.below(3)):
                shop.drop(plain_places(sizes)[turn * 3])
            for turn in range(dice.below(3)):
                if shop.loose():
                    shop.chip(dice.one_of(shop.loose())[0])
            end = shop.end()
            without = [place for place in plain_places(sizes) if place not in shop.gone()]
            self.assertEqual(end, plain_carve(sizes, shop.looks(), without, [])[0])
            for picks in MANY_PICKS:
                shop.finish(picks)
                self.assertEqual((shop.standing(), shop.end(), shop.loose()), (end, end, []))
                self.assertEqual(len(shop.paper()) + len(end), len(without))
                self.assertTrue(rows_stand(sizes, shop.looks(), without, shop.paper()))
                shop.back()

    def test_asking_changes_nothing(self):
        shop = sky_shop()
        shop.keep((0, 0, 0))
        shop.chip((0, 0, 0))
        shop.back()
        before = answers_of(shop)
        for turn in range(3):
            self.assertEqual(answers_of(shop), before)
        shop.again()
        self.assertEqual(shop.paper(), [((0, 0, 0), 0, 0)])
        self.assertRaises(NothingAgain, shop.again)


class AgainstTheWords(CheckDeeds):
    """Deeds thrown one after another, each answer compared with the plain workshop's."""

    def check_life(self, seed, sizes, deeds):
        dice = Dice(seed)
        shop, plain = Workshop(sizes), PlainShop(sizes)
        refused = {}
        for turn in range(deeds):
            deed, handed = thrown_deed(dice, sizes, ["a", "b", "c", "d", "e"], FEW_WAYS)
            if dice.below(9) == 0:
                deed, handed = dice.one_of(["back", "back", "again"]), ()
            kept = deepcopy(handed)
            refusal = refusal_of(getattr(shop, deed), *handed)
            self.assertEqual(refusal, refusal_of(getattr(plain, deed), *handed), (seed, turn, deed, handed))
            self.assertEqual(handed, kept)
            self.assertEqual(answers_of(shop), answers_of(plain), (seed, turn, deed, handed))
            refused[deed, refusal] = refused.get((deed, refusal), 0) + 1
        return refused

    def test_many_lives(self):
        met = {}
        for seed in range(36):
            sizes = [(2, 2, 2), (3, 2, 1), (1, 1, 6), (2, 1, 3), (1, 1, 1), (2, 3, 2)][seed % 6]
            for what, many in self.check_life(seed, sizes, 60).items():
                met[what] = met.get(what, 0) + many
        for deed, refusals in {
            "eye": [None, "BadName", "Taken", "BadDirection", "BadPicture"], "shut": [None, "Unknown"],
            "repaint": [None, "Unknown", "BadSpot", "BadSign"], "drop": [None, "NoPlace", "Contrary"],
            "keep": [None, "NoPlace", "Contrary"], "free": [None, "NoPlace", "Unsaid"], "finish": [None],
            "chip": [None, "NoPlace", "NoGrain", "NotBarred"], "back": [None], "again": [None, "NothingAgain"],
        }.items():
            for refusal in refusals:
                self.assertGreater(met.get((deed, refusal), 0), 2, (deed, refusal))


class Answers(CheckDeeds):
    def busy(self):
        shop = shop_of((3, 2, 1), (ALONG, ".?"), (UP, "?.?"))
        shop.drop((2, 1, 0))
        shop.keep((1, 0, 0))
        shop.chip((0, 0, 0))
        return shop

    def test_each_list_is_the_askers_own(self):
        for spoil in (lambda told: told.clear(), lambda told: told.append("spoilt"), lambda told: told.reverse()):
            shop = self.busy()
            other = shop.twin()
            before = answers_of(shop)
            for name in LISTS:
                self.assertIs(type(getattr(shop, name)()), list)
                spoil(getattr(shop, name)())
                self.assertEqual(answers_of(shop), before, name)
            spoil(shop.why((2, 0, 0)))
            self.assertEqual(answers_of(shop), before)
            self.assertEqual(answers_of(other), before)
            shop.finish([])
            for name in LISTS:
                spoil(getattr(shop, name)())
            shop.back()
            self.assertEqual(answers_of(shop), before)
            shop.again()
            self.assertEqual(shop.standing(), [(0, 1, 0)])
            self.assertEqual(shop.end(), [(0, 1, 0)])

    def test_answers_asked_ahead_of_a_deed_stay(self):
        shop = self.busy()
        held = {name: getattr(shop, name)() for name in LISTS}
        kept = deepcopy(held)
        shop.finish([])
        shop.free((2, 1, 0))
        shop.keep((2, 1, 0))
        shop.shut("a")
        shop.eye("z", DOWN, "???")
        self.assertEqual(held, kept)

    def test_a_later_change_of_the_sizes(self):
        sizes = [2, 1, 1]
        shop = Workshop(sizes)
        sizes[0] = 5
        self.assertEqual(sizes, [5, 1, 1])
        self.assertEqual((shop.block(), shop.standing()), ((2, 1, 1), [(0, 0, 0), (1, 0, 0)]))

    def test_kinds_of_the_rows(self):
        shop = self.busy()
        for row in shop.paper() + shop.loose() + shop.why((2, 0, 0)):
            self.assertIs(type(row), tuple)
            check_plain_tuple(self, row[0])
            check_plain_tuple(self, row[1:], 2)


class GreatBlock(CheckDeeds):
    def test_each_answers_soon(self):
        sizes = (6, 6, 6)
        whole = plain_places(sizes)
        skies = thrown_looks(Dice(500), sizes, EIGHT_WAYS, ".")
        for looks in (great_looks(10), skies):
            shop = Workshop(sizes)
            for name, (way, picture) in zip("abcdefgh", looks):
                check_soon(self, shop.eye, name, way, picture)
            self.assertEqual(shop.looks(), looks)
            for deed, handed in [("drop", (5, 5, 5)), ("keep", (0, 0, 0)), ("chip", shop.loose()[0][0])]:
                check_soon(self, getattr(shop, deed), handed)
            row = shop.paper()[0]
            for turn in range(2):
                end = check_soon(self, shop.end)
                for name in LISTS:
                    check_soon(self, getattr(shop, name))
                if turn == 0:
                    self.assertEqual(shop.loose(), barred(sizes, looks, shop.standing()))
                    last = [place for place in shop.standing() if place not in end][-1]
                    why = check_soon(self, shop.why, last)
                    check_soon(self, shop.finish, [])
            self.assertTrue(agrees(sizes, looks, end))
            self.assertEqual(shop.standing(), end)
            self.assertEqual(shop.paper()[0], row)
            self.assertEqual(why, plain_because(sizes, looks, whole[:-1], shop.paper(), last))
            self.assertEqual(check_soon(self, shop.why, last), why)
            for name, handed in [
                ("twin", ()), ("back", ()), ("again", ()), ("free", ((0, 0, 0),)), ("free", ((5, 5, 5),)),
                ("finish", ([-1] * 300,)), ("repaint", ("a", 0, "?")), ("shut", ("h",)), ("finish", ([3, 5] * 150,)),
            ]:
                check_soon(self, getattr(shop, name), *handed)


if __name__ == "__main__":
    unittest.main()
