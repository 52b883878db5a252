"""Point 6: signs and pictures; with point 1 for what is handed in."""

import unittest
from copy import deepcopy
from time import perf_counter

from plain_looks import (
    Dice, EIGHT_WAYS, LETTERS, SIGNS, check_arguments, plain_doors, plain_sign, plain_snapped,
)
from samples import BLOCKS, FEW_WAYS, WAYS, plain_places, some_stones
from sightstone.errors import BadPicture, SightError
from sightstone.pictures import blank, checked_picture, is_sign, sign_of, snapped, tells_no_more, veiled

STRANGE = ["{", "`", "A", "Z", " ", "\n", "\t", "@", "[", "-", "/", "0", "9", ">", "!", ",", "_", "\0", "\x7f"]

UNLIKE_WAYS = [(1, 0, 0), (0, 0, -1), (-1, 2, 0), (3, -2, 1), (0, -3, 2), (-1, -1, 2)]


class Interface(unittest.TestCase):
    def test_arguments(self):
        check_arguments(self, is_sign, ["sign"])
        check_arguments(self, checked_picture, ["sizes", "way", "picture"])
        check_arguments(self, sign_of, ["sizes", "way", "picture", "place"])
        check_arguments(self, snapped, ["sizes", "way", "stone", "paint"])
        check_arguments(self, veiled, ["picture", "spots"])
        check_arguments(self, blank, ["sizes", "way"])
        check_arguments(self, tells_no_more, ["one", "other"])


class IsSign(unittest.TestCase):
    def test_every_ascii_sign_alone(self):
        for code in range(128):
            sign = chr(code)
            self.assertIs(is_sign(sign), "a" <= sign <= "z" or sign == "." or sign == "?", repr(sign))

    def test_the_empty_text(self):
        self.assertIs(is_sign(""), False)

    def test_two_good_signs_at_once(self):
        for one in SIGNS:
            for other in SIGNS:
                self.assertIs(is_sign(one + other), False, one + other)

    def test_more_signs(self):
        for text in [LETTERS, SIGNS, "abc", "xyz", "z.?", "...", "???", "a" * 50, "a\n", "\na", " a", ".?.?"]:
            self.assertIs(is_sign(text), False, text)

    def test_signs_beyond_ascii(self):
        for text in ["\u00e4", "\u00aa", "\uff41", "\u0430", "\u00df"]:
            self.assertIs(is_sign(text), False, text)


class CheckedPicture(unittest.TestCase):
    def test_the_text_itself_is_answered(self):
        dice = Dice(1)
        for sizes in BLOCKS + [(6, 6, 6)]:
            for way in FEW_WAYS:
                many = len(plain_doors(sizes, way))
                for picture in ("?" * many, "." * many, dice.text(SIGNS, many)):
                    self.assertIs(checked_picture(sizes, way, picture), picture)

    def test_each_good_sign_at_each_place(self):
        for sign in SIGNS:
            for at in range(3):
                picture = "a.?"[:at] + sign + "a.?"[at + 1:]
                self.assertIs(checked_picture((2, 2, 1), (1, 1, 0), picture), picture)

    def test_other_lengths_are_refused(self):
        for sizes in BLOCKS:
            for way in UNLIKE_WAYS:
                many = len(plain_doors(sizes, way))
                for length in {0, many - 1, many + 1, 2 * many}:
                    with self.subTest(sizes=sizes, way=way, length=length), self.assertRaises(BadPicture):
                        checked_picture(sizes, way, "a" * length)

    def test_a_strange_sign_is_refused_wherever_it_is(self):
        for sizes, way in [((1, 1, 1), (0, 0, 1)), ((2, 3, 4), (0, 0, 1)), ((3, 2, 2), (-1, 2, 0))]:
            many = len(plain_doors(sizes, way))
            for strange in STRANGE:
                for at in range(many):
                    picture = "b" * at + strange + "b" * (many - at - 1)
                    with self.subTest(picture), self.assertRaises(BadPicture):
                        checked_picture(sizes, way, picture)

    def test_a_line_feed_behind_a_good_picture_is_refused(self):
        for picture in ("ab\n", "\nab", "ab ", " ab", "a\nb"):
            with self.subTest(picture), self.assertRaises(BadPicture):
                checked_picture((2, 2, 1), (1, 0, 0), picture)

    def test_the_refusal_is_a_sight_error(self):
        with self.assertRaises(SightError):
            checked_picture((1, 1, 1), (1, 0, 0), "")


class SignOf(unittest.TestCase):
    def test_every_place_along_every_way(self):
        dice = Dice(2)
        for sizes in [(1, 1, 1), (2, 3, 4), (4, 3, 2), (3, 1, 5), (5, 2, 1), (1, 6, 1)]:
            for way in WAYS:
                self.check_signs(sizes, way, dice.text(SIGNS, len(plain_doors(sizes, way))))

    def test_every_place_of_the_greatest_block(self):
        dice = Dice(3)
        for way in UNLIKE_WAYS:
            self.check_signs((6, 6, 6), way, dice.text(SIGNS, len(plain_doors((6, 6, 6), way))))

    def check_signs(self, sizes, way, picture):
        for place in plain_places(sizes):
            wanted = plain_sign(sizes, way, picture, place)
            self.assertEqual(sign_of(sizes, way, picture, place), wanted, (sizes, way, picture, place))

    def test_written_out(self):
        # The doors of (-1, 0, 0) are (2, 0, 0) and (2, 1, 0).
        self.assertEqual(sign_of((3, 2, 1), (-1, 0, 0), "x?", (0, 0, 0)), "x")
        self.assertEqual(sign_of((3, 2, 1), (-1, 0, 0), "x?", (1, 1, 0)), "?")
        # The doors of (1, 1, 0) are (0, 0, 0), (0, 1, 0) and (1, 0, 0).
        self.assertEqual(sign_of((2, 2, 1), (1, 1, 0), "ab.", (1, 1, 0)), "a")
        self.assertEqual(sign_of((2, 2, 1), (1, 1, 0), "ab.", (0, 1, 0)), "b")
        self.assertEqual(sign_of((2, 2, 1), (1, 1, 0), "ab.", (1, 0, 0)), ".")


class Snapped(unittest.TestCase):
    def test_sample_stones_along_sample_ways(self):
        dice = Dice(4)
        for sizes in BLOCKS + [(6, 6, 6)]:
            for way in FEW_WAYS:
                for stone in some_stones(sizes):
                    paint = dice.text(LETTERS, len(stone))
                    wanted = plain_snapped(sizes, way, stone, paint)
                    self.assertEqual(snapped(sizes, way, stone, paint), wanted, (sizes, way, stone, paint))

    def test_small_blocks_along_every_way(self):
        dice = Dice(5)
        for sizes in [(2, 3, 2), (1, 4, 3)]:
            for way in WAYS:
                stone = dice.stone(sizes)
                paint = dice.text(LETTERS, len(stone))
                self.assertEqual(snapped(sizes, way, stone, paint), plain_snapped(sizes, way, stone, paint))

    def test_the_empty_stone_is_sky(self):
        for sizes in BLOCKS:
            for way in FEW_WAYS:
                self.assertEqual(snapped(sizes, way, [], ""), "." * len(plain_doors(sizes, way)))

    def test_the_whole_block_shows_its_doors(self):
        self.assertEqual(snapped((2, 2, 1), (1, 0, 0), plain_places((2, 2, 1)), "wxyz"), "wx")
        self.assertEqual(snapped((2, 2, 1), (-1, 0, 0), plain_places((2, 2, 1)), "wxyz"), "yz")
        self.assertEqual(snapped((2, 2, 1), (0, -1, 0), plain_places((2, 2, 1)), "wxyz"), "xz")
        self.assertEqual(snapped((2, 2, 1), (1, 1, 0), plain_places((2, 2, 1)), "wxyz"), "wxy")
        self.assertEqual(snapped((2, 2, 1), (3, -1, 0), plain_places((2, 2, 1)), "wxyz"), "wxyz")

    def test_written_out(self):
        stone = [(0, 1, 0), (1, 0, 0), (2, 1, 0)]
        self.assertEqual(snapped((3, 3, 1), (1, 0, 0), stone, "abc"), "ba.")
        self.assertEqual(snapped((3, 3, 1), (-1, 0, 0), stone, "abc"), "bc.")
        self.assertEqual(snapped((3, 3, 1), (0, 1, 0), stone, "abc"), "abc")
        self.assertEqual(snapped((3, 3, 1), (2, 0, 1), stone, "abc"), ".a.b...c.")

    def test_the_stone_stays_as_it_was(self):
        stone = [(0, 1, 0), (1, 0, 0), (2, 1, 0)]
        before = deepcopy(stone)
        picture = snapped((3, 3, 1), (-1, 0, 0), stone, "abc")
        self.assertEqual(stone, before)
        stone.clear()
        self.assertEqual(picture, "bc.")


class Veiled(unittest.TestCase):
    def test_written_out(self):
        self.assertEqual(veiled("ab.?z", []), "ab.?z")
        self.assertEqual(veiled("ab.?z", [0]), "?b.?z")
        self.assertEqual(veiled("ab.?z", [4]), "ab.??")
        self.assertEqual(veiled("ab.?z", [2, 3]), "ab??z")
        self.assertEqual(veiled("ab.?z", [3]), "ab.?z")
        self.assertEqual(veiled("ab.?z", [4, 0, 2]), "?b???")
        self.assertEqual(veiled("ab.?z", [1, 1, 0, 1, 0]), "??.?z")
        self.assertEqual(veiled("ab.?z", [3, 4, 2, 0, 1]), "?????")

    def test_thrown_spots(self):
        dice = Dice(6)
        for length in (1, 2, 7, 36, 180):
            for many in (0, 1, 3, length, 2 * length):
                picture = dice.text(SIGNS, length)
                spots = [dice.below(length) for turn in range(many)]
                wanted = list(picture)
                for spot in spots:
                    wanted[spot] = "?"
                self.assertEqual(veiled(picture, spots), "".join(wanted))

    def test_the_spots_stay_as_they_were(self):
        spots = [2, 0, 2]
        answer = veiled("abc", spots)
        self.assertEqual(spots, [2, 0, 2])
        spots.append(1)
        self.assertEqual(answer, "?b?")


class Blank(unittest.TestCase):
    def test_a_veil_for_each_door(self):
        for sizes in BLOCKS + [(6, 6, 6)]:
            for way in FEW_WAYS:
                answer = blank(sizes, way)
                self.assertEqual(answer, "?" * len(plain_doors(sizes, way)))
                self.assertIs(checked_picture(sizes, way, answer), answer)


class TellsNoMore(unittest.TestCase):
    def test_equal_pictures(self):
        for picture in ["a", ".", "?", "ab.?", "????", "z.z."]:
            self.assertIs(tells_no_more(picture, picture), True)

    def test_every_pair_of_short_pictures(self):
        pictures = [one + other for one in "ab.?" for other in "ab.?"]
        for one in pictures:
            for other in pictures:
                wanted = all(one[at] == "?" or one[at] == other[at] for at in (0, 1))
                self.assertIs(tells_no_more(one, other), wanted, (one, other))

    def test_veils_in_either(self):
        self.assertIs(tells_no_more("a?.?", "ab.c"), True)
        self.assertIs(tells_no_more("ab.c", "a?.?"), False)
        self.assertIs(tells_no_more("????", "ab.?"), True)
        self.assertIs(tells_no_more("ab.?", "????"), False)
        self.assertIs(tells_no_more("?a", "a?"), False)

    def test_unlike_signs_at_the_first_and_the_last_place(self):
        self.assertIs(tells_no_more("abc", "bbc"), False)
        self.assertIs(tells_no_more("abc", "abd"), False)
        self.assertIs(tells_no_more("ab.", "abc"), False)
        self.assertIs(tells_no_more(".bc", "abc"), False)
        self.assertIs(tells_no_more("?b?", "acd"), False)

    def test_a_veiled_picture_tells_no_more(self):
        dice = Dice(7)
        for turn in range(30):
            picture = dice.text(SIGNS, 20)
            less = veiled(picture, [dice.below(20) for spot in range(dice.below(9))])
            self.assertIs(tells_no_more(less, picture), True)
            self.assertIs(tells_no_more(picture, less), less == picture)

    def test_unlike_lengths(self):
        self.assertIs(tells_no_more("ab", "abc"), False)
        self.assertIs(tells_no_more("abc", "ab"), False)
        self.assertIs(tells_no_more("??", "abc"), False)


class GreatBlock(unittest.TestCase):
    def test_eight_pictures_are_made_and_read_soon(self):
        sizes = (6, 6, 6)
        whole = plain_places(sizes)
        paint = Dice(8).text(LETTERS, len(whole))
        start = perf_counter()
        for way in EIGHT_WAYS:
            picture = checked_picture(sizes, way, snapped(sizes, way, whole, paint))
            self.assertIs(tells_no_more(blank(sizes, way), picture), True)
            self.assertIs(tells_no_more(veiled(picture, list(range(len(picture)))), blank(sizes, way)), True)
            for place in whole[::8]:
                sign_of(sizes, way, picture, place)
        self.assertLess(perf_counter() - start, 5)


if __name__ == "__main__":
    unittest.main()
