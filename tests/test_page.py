"""Point 22: pages written and read."""

import unittest

from plain_looks import Dice, EIGHT_WAYS, check_arguments, great_looks, thrown_looks
from plain_shop import PlainShop, answers_of, moments_of, refusal_of, thrown_deed
from samples import BLOCKS, FEW_WAYS, check_soon, plain_places
from sightstone.errors import BadPage, NothingAgain, NothingBack
from sightstone.page import read, written
from sightstone.workshop import Workshop

# Two eyes, two gone places, two sure ones and a paper of three rows.
ROWS = [
    "block 3 2 2", "eye here 1 0 0 .?.b", "eye there -1 2 -3 ????????.?a?", "gone 0 1 0", "gone 2 1 1", "sure 0 0 1",
    "sure 1 1 1", "chip 0 0 0 0 0", "chip 1 0 0 0 0", "chip 1 1 0 0 0",
]

PAGE = "\n".join(ROWS)


def with_row(at, *rows):
    """The page with other rows instead of one."""
    return "\n".join(ROWS[:at] + list(rows) + ROWS[at + 1:])


class Interface(unittest.TestCase):
    def test_arguments(self):
        check_arguments(self, written, ["shop"])
        check_arguments(self, read, ["text"])


class Written(unittest.TestCase):
    def test_a_new_workshop(self):
        for sizes in BLOCKS + [(6, 6, 6)]:
            self.assertEqual(written(Workshop(sizes)), "block %d %d %d" % sizes)

    def test_written_out(self):
        shop = Workshop((3, 2, 2))
        shop.eye("here", (1, 0, 0), ".?.b")
        shop.eye("there", (-1, 2, -3), "????????.?a?")
        for place in [(2, 1, 1), (0, 1, 0)]:
            shop.drop(place)
        for place in [(1, 1, 1), (0, 0, 1)]:
            shop.keep(place)
        for place in [(0, 0, 0), (1, 0, 0), (1, 1, 0)]:
            shop.chip(place)
        self.assertEqual(written(shop), PAGE)
        self.assertIs(type(written(shop)), str)

    def test_each_part_by_itself(self):
        shop = Workshop([1, 2, 3])
        shop.drop([0, 1, 2])
        self.assertEqual(written(shop), "block 1 2 3\ngone 0 1 2")
        shop.back()
        shop.keep([0, 1, 2])
        self.assertEqual(written(shop), "block 1 2 3\nsure 0 1 2")
        shop.back()
        shop.eye("z", [0, -1, -1], "a.?z")
        self.assertEqual(written(shop), "block 1 2 3\neye z 0 -1 -1 a.?z")
        shop.finish([])
        self.assertEqual(written(shop), "block 1 2 3\neye z 0 -1 -1 a.?z\nchip 0 1 0 0 0")
        shop.repaint("z", 3, ".")
        shop.chip((0, 1, 2))
        self.assertEqual(written(shop), "block 1 2 3\neye z 0 -1 -1 a.?.\nchip 0 1 2 0 0")

    def test_eyes_stand_in_the_order_of_setting(self):
        shop = Workshop((1, 1, 1))
        for name in "hgbc":
            shop.eye(name, (0, 1, 0), name)
        self.assertEqual(written(shop), "block 1 1 1\n" + "\n".join("eye %s 0 1 0 %s" % (n, n) for n in "hgbc"))

    def test_writing_changes_nothing(self):
        shop = read(PAGE)
        shop.finish([])
        shop.back()
        before, moments = answers_of(shop), moments_of(shop)
        self.assertEqual(written(shop), PAGE)
        self.assertEqual((answers_of(shop), moments_of(shop)), (before, moments))


class ReadBack(unittest.TestCase):
    def check_read(self, shop):
        text = written(shop)
        other = read(text)
        self.assertIs(type(other), Workshop)
        self.assertEqual(written(other), text)
        self.assertEqual(answers_of(other), answers_of(shop))
        self.assertRaises(NothingBack, other.back)
        self.assertRaises(NothingAgain, other.again)
        return other

    def test_workshops_of_many_lives(self):
        eyes, said, chipped = 0, 0, 0
        for seed in range(40):
            dice = Dice(seed + 800)
            sizes = [(2, 2, 2), (3, 2, 1), (1, 1, 6), (2, 1, 3), (6, 1, 2)][seed % 5]
            shop, plain = Workshop(sizes), PlainShop(sizes)
            for turn in range(30):
                deed, handed = thrown_deed(dice, sizes, ["a", "b", "c", "d"], FEW_WAYS)
                if dice.below(12) == 0:
                    deed, handed = "back", ()
                for each in (shop, plain):
                    refusal_of(getattr(each, deed), *handed)
                self.assertEqual(written(shop), plain.page())
                if turn % 3 == 0:
                    self.check_read(shop)
                    eyes += len(shop.names()) > 1
                    said += bool(shop.gone() and shop.sure())
                    chipped += len(shop.paper()) > 1
        self.assertGreater(min(eyes, said, chipped), 30)

    def test_a_read_workshop_goes_on_as_the_written_one(self):
        for seed in range(12):
            dice = Dice(seed + 900)
            sizes = (2, 3, 1)
            shop = Workshop(sizes)
            for turn in range(20):
                deed, handed = thrown_deed(dice, sizes, ["a", "b", "c"], FEW_WAYS)
                refusal_of(getattr(shop, deed), *handed)
            other = self.check_read(shop)
            for turn in range(20):
                deed, handed = thrown_deed(dice, sizes, ["a", "b", "c"], FEW_WAYS)
                refusals = [refusal_of(getattr(each, deed), *handed) for each in (shop, other)]
                self.assertEqual(refusals[0], refusals[1])
                self.assertEqual(answers_of(other), answers_of(shop))
            many = len(moments_of(other)[0])
            for turn in range(many):
                other.back()
            self.assertRaises(NothingBack, other.back)

    def test_what_is_read(self):
        shop = read(PAGE)
        self.assertEqual(shop.block(), (3, 2, 2))
        self.assertEqual(shop.names(), ["here", "there"])
        self.assertEqual(shop.looks(), [((1, 0, 0), ".?.b"), ((-1, 2, -3), "????????.?a?")])
        self.assertEqual(shop.gone(), [(0, 1, 0), (2, 1, 1)])
        self.assertEqual(shop.sure(), [(0, 0, 1), (1, 1, 1)])
        self.assertEqual(shop.paper(), [((0, 0, 0), 0, 0), ((1, 0, 0), 0, 0), ((1, 1, 0), 0, 0)])
        taken = [(0, 0, 0), (0, 1, 0), (1, 0, 0), (1, 1, 0), (2, 1, 1)]
        self.assertEqual(shop.standing(), [place for place in plain_places((3, 2, 2)) if place not in taken])
        self.check_read(shop)

    def test_all_gone_and_all_sure(self):
        for word in ("gone", "sure"):
            rows = ["%s %d %d %d" % (word, *place) for place in plain_places((2, 3, 2))]
            shop = read("\n".join(["block 2 3 2"] + rows))
            self.assertEqual(getattr(shop, word)(), plain_places((2, 3, 2)))
            self.assertEqual(shop.standing(), [] if word == "gone" else plain_places((2, 3, 2)))
            self.check_read(shop)

    def test_eight_eyes(self):
        rows = ["eye %s 0 0 1 ." % name for name in ("a", "b", "c", "d", "e", "f", "g", "h" * 12)]
        shop = read("\n".join(["block 1 1 1"] + rows + ["chip 0 0 0 7 7"]))
        self.assertEqual(len(shop.names()), 8)
        self.assertEqual(shop.paper(), [((0, 0, 0), 7, 7)])
        self.check_read(shop)

    def test_chip_rows_that_stand_but_are_not_the_told_bar(self):
        eyes = ["eye %s 0 0 1 %s" % pair for pair in zip("pqrst", "ab.c.")]
        for bar, good in [
            ("2 2", True), ("4 4", True), ("0 1", True), ("0 3", True), ("1 3", True), ("0 0", False), ("0 2", False),
            ("1 0", False), ("2 4", False), ("5 5", False), ("0 5", False), ("3 7", False), ("0 8", False),
        ]:
            page = "\n".join(["block 1 1 1"] + eyes + ["chip 0 0 0 " + bar])
            if good:
                shop = read(page)
                self.assertEqual(shop.paper(), [((0, 0, 0), int(bar[0]), int(bar[2]))])
                self.assertEqual(shop.standing(), [])
                self.check_read(shop)
            else:
                with self.subTest(bar), self.assertRaises(BadPage):
                    read(page)

    def test_why_follows_the_rows_that_are_read(self):
        eyes = ["eye a 1 0 0 .", "eye b -1 0 0 ."]
        rows = ["chip 2 0 0 1 1", "chip 1 0 0 1 1", "chip 0 0 0 1 1"]
        shop = read("\n".join(["block 3 1 1"] + eyes + rows))
        self.assertEqual(shop.why((0, 0, 0)), [((2, 0, 0), 1, 1), ((1, 0, 0), 1, 1), ((0, 0, 0), 1, 1)])


class NoPages(unittest.TestCase):
    def check_bad(self, *texts):
        for text in texts:
            with self.subTest(text), self.assertRaises(BadPage) as held:
                read(text)
            self.assertIs(type(held.exception), BadPage)

    def test_the_page_itself_is_good(self):
        self.assertEqual(written(read(PAGE)), PAGE)

    def test_the_empty_text_and_blanks(self):
        self.check_bad("", " ", "\n", "\n\n", "  ", "\t", "\n ", "block", "page", "block ", "?", "0")

    def test_line_feeds(self):
        self.check_bad(PAGE + "\n", "\n" + PAGE, PAGE + "\n\n", PAGE.replace("\n", "\n\n"), PAGE.replace("\n", "\r\n"))
        self.check_bad("block 1 1 1\n", "\nblock 1 1 1", "block 1 1 1\r", "block 1 1 1\n\nsure 0 0 0", "block 1 1\n1")
        self.check_bad(PAGE.replace("\n", " "), PAGE.replace("\n", "\x0b"), PAGE.replace("\n", "\x1c"))

    def test_blanks_too_many_or_at_an_end(self):
        for at, row in enumerate(ROWS):
            self.check_bad(with_row(at, " " + row), with_row(at, row + " "), with_row(at, row + "\t"))
            self.check_bad(with_row(at, row.replace(" ", "\t")))
            for spot, sign in enumerate(row):
                if sign == " ":
                    self.check_bad(with_row(at, row[:spot] + " " + row[spot:]))
                    self.check_bad(with_row(at, row[:spot] + row[spot + 1:]))
                    self.check_bad(with_row(at, row[:spot] + "\t" + row[spot + 1:]))

    def test_rows_in_another_order(self):
        # Rows of unlike words, and gone and sure places, have one order alone; the chip rows here, too.
        for at in range(len(ROWS) - 1):
            changed = ROWS[:at] + [ROWS[at + 1], ROWS[at]] + ROWS[at + 2:]
            if {row.split()[0] for row in ROWS[at:at + 2]} == {"eye"}:
                # The chip rows ask the first eye, so the eyes may not change places either.
                self.check_bad("\n".join(changed))
                read("\n".join(changed[:-3]))
            elif (ROWS[at], ROWS[at + 1]) == (ROWS[8], ROWS[9]):
                read("\n".join(changed))
            else:
                self.check_bad("\n".join(changed))
        self.check_bad("\n".join(ROWS[::-1]), "\n".join(ROWS[1:]), "\n".join(ROWS[1:] + ROWS[:1]))

    def test_each_row_behind_all_others(self):
        for at in range(len(ROWS) - 2):
            if at != 8:
                self.check_bad("\n".join(ROWS[:at] + ROWS[at + 1:] + [ROWS[at]]))

    def test_a_row_twice(self):
        for row in ROWS:
            at = ROWS.index(row)
            self.check_bad(with_row(at, row, row), PAGE + "\n" + row)

    def test_a_row_left_out(self):
        # Without the gone place ahead of it, the last chip row's grain is hidden.
        self.check_bad(with_row(0), with_row(1), with_row(3), with_row(7))
        for at in (2, 4, 5, 6, 8, 9):
            self.assertEqual(written(read(with_row(at))), with_row(at))

    def test_numbers_that_are_not_written_plainly(self):
        for at, row in enumerate(ROWS):
            words = row.split(" ")
            for spot, word in enumerate(words):
                if word.lstrip("-").isdigit():
                    number = word.lstrip("-")
                    bad = ["+" + word, "0" + word, "00" + word, "-0" + number, word + "_0", "0_" + number, " " + word]
                    bad += [word + ".0", word + "e0", "0x" + number, "--" + word, "- " + number, number + "-", "a", "?"]
                    bad += ["-0", "+0", "00", "1" + "0" * 30, "-1" + "0" * 30, "9" * 5000, word + "\x00", word + "\r"]
                    for other in bad:
                        changed = words[:spot] + [other] + words[spot + 1:]
                        self.check_bad(with_row(at, " ".join(changed)))

    def test_empty_words_and_too_few_or_too_many(self):
        for at, row in enumerate(ROWS):
            words = row.split(" ")
            for spot in range(len(words)):
                self.check_bad(with_row(at, " ".join(words[:spot] + [""] + words[spot + 1:])))
                self.check_bad(with_row(at, " ".join(words[:spot] + words[spot + 1:])))
            for more in ("0", "1", "a", "?", "", row):
                self.check_bad(with_row(at, row + " " + more))
            self.check_bad(with_row(at, words[0]), with_row(at, ""))

    def test_great_letters_and_other_words(self):
        for at, row in enumerate(ROWS):
            words = row.split(" ")
            for word in [words[0].upper(), words[0].title(), words[0] + "s", "row", "x", "0", "blocks"]:
                self.check_bad(with_row(at, " ".join([word] + words[1:])))
            for word in ["block", "eye", "gone", "sure", "chip"]:
                if word != words[0] and not (word == "sure" and row == "gone 2 1 1"):
                    self.check_bad(with_row(at, " ".join([word] + words[1:])))
        self.check_bad(PAGE.upper(), with_row(1, ROWS[1].upper()), with_row(1, "eye Here 1 0 0 .?.b"))
        self.check_bad(with_row(1, "eye here 1 0 0 .?.B"))

    def test_bad_blocks(self):
        for sizes in ["0 1 1", "1 0 1", "1 1 7", "7 1 1", "-1 1 1", "1 1", "1 1 1 1", "6 6 66", "1 1 a"]:
            self.check_bad("block " + sizes)

    def test_places_outside_the_block(self):
        for place in ["3 0 0", "0 2 0", "0 0 2", "-1 0 0", "0 -1 0", "0 0 -1", "6 6 6", "7 0 0"]:
            self.check_bad("block 3 2 2\ngone " + place, "block 3 2 2\nsure " + place)
            self.check_bad(with_row(9, "chip %s 0 0" % place))

    def test_a_place_gone_and_sure(self):
        self.check_bad("block 3 2 2\ngone 0 1 0\nsure 0 1 0", with_row(5, "sure 0 1 0"), with_row(6, "sure 2 1 1"))

    def test_places_not_rising(self):
        for word in ("gone", "sure"):
            for places in [
                ["0 0 1", "0 0 0"], ["1 0 0", "0 1 1"], ["0 1 0", "0 0 1"], ["0 0 0", "0 0 0"],
                ["0 0 0", "0 1 0", "0 0 1"], ["2 1 1", "0 0 0", "1 0 0"],
            ]:
                self.check_bad("\n".join(["block 3 2 2"] + [word + " " + place for place in places]))
                rising = sorted(set(places))
                read("\n".join(["block 3 2 2"] + [word + " " + place for place in rising]))

    def test_nine_eyes_and_a_name_twice(self):
        rows = ["block 1 1 1"] + ["eye %s 0 0 1 ?" % name for name in "abcdefghi"]
        self.check_bad("\n".join(rows), "\n".join(rows[:4] + rows[2:3]), "\n".join(rows[:2] + ["eye a 1 0 0 ?"]))
        read("\n".join(rows[:9]))

    def test_bad_names(self):
        for name in ["", "A", "aB", "a" * 13, "a1", "a.", "a-b", "1", "?"]:
            self.check_bad("block 1 1 1\neye %s 0 0 1 ?" % name)

    def test_bad_ways(self):
        for way in ["0 0 0", "2 0 0", "0 -2 2", "3 3 3", "4 1 0", "1 0 -4", "1 0", "1 0 0 0", "7 1 1", "0 0 a"]:
            self.check_bad("block 1 1 1\neye a %s ?" % way)

    def test_bad_pictures(self):
        for picture in ["", "?", "???", "??", "?????", "???A", "???-", "??? ", "?? ?", "????\n", "\n????", "???1"]:
            self.check_bad("block 3 2 2\neye a 1 0 0 " + picture)
        read("block 3 2 2\neye a 1 0 0 a?.z")

    def test_chip_rows_that_do_not_stand(self):
        for row in [
            "chip 0 0 0 0 0", "chip 0 1 0 0 0", "chip 2 1 0 0 0", "chip 1 0 1 0 0", "chip 1 1 0 0 1", "chip 1 1 0 1 0",
            "chip 1 1 0 1 1", "chip 1 1 0 2 2", "chip 1 1 0 0 2", "chip 1 1 0 -1 -1", "chip 1 1 0 7 7",
            "chip 1 1 0 8 8", "chip 1 1 0 0", "chip 1 1 0", "chip 1 1 0 0 0 0", "chip 2 1 1 0 0", "chip 0 1 1 0 0",
            "chip 1 1 0 -3 -3",
        ]:
            self.check_bad(with_row(9, row))
        self.check_bad("block 1 1 1\nchip 0 0 0 0 0", "block 1 1 1\nchip 0 0 0 -1 -1")
        self.check_bad("block 1 1 1\neye a 0 0 1 .\ngone 0 0 0\nchip 0 0 0 0 0")

    def test_one_sign_changed_anywhere(self):
        """Each text that is read is the page of what is read; each other one is refused."""
        good = 0
        for at in range(len(PAGE)):
            for sign in " \n-0123456789aAz.?+\t\r":
                for text in (PAGE[:at] + sign + PAGE[at + 1:], PAGE[:at] + sign + PAGE[at:]):
                    refusal = refusal_of(read, text)
                    self.assertIn(refusal, (None, "BadPage"), text)
                    if refusal is None:
                        good += text != PAGE
                        self.assertEqual(written(read(text)), text)
        self.assertGreater(good, 50)
        for at in range(len(PAGE)):
            text = PAGE[:at] + PAGE[at + 1:]
            if refusal_of(read, text) is None:
                self.assertEqual(written(read(text)), text)


class GreatBlock(unittest.TestCase):
    def test_each_answers_soon(self):
        sizes = (6, 6, 6)
        for looks in (great_looks(11), thrown_looks(Dice(950), sizes, EIGHT_WAYS, ".")):
            shop = Workshop(sizes)
            for name, (way, picture) in zip("abcdefgh", looks):
                shop.eye(name, way, picture)
            for place in plain_places(sizes)[::7]:
                shop.drop(place)
            for place in plain_places(sizes)[1::7]:
                shop.keep(place)
            shop.finish([-1] * 300)
            text = check_soon(self, written, shop)
            self.assertEqual(text.count("\n"), 8 + 31 + 31 + len(shop.paper()))
            other = check_soon(self, read, text)
            self.assertEqual(written(other), text)
            self.assertEqual(answers_of(other, False), answers_of(shop, False))
            self.assertEqual(check_soon(self, refusal_of, read, text + "\n"), "BadPage")


if __name__ == "__main__":
    unittest.main()
