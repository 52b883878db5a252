"""Point 23: the shelf; with point 1 for what is handed in and answered."""

import unittest
from copy import deepcopy
from time import perf_counter

from plain_looks import Dice, all_stones
from plain_moves import HANDED, MIRROR, MOVES, STAY, plain_between, plain_block, plain_form, plain_stone
from plain_shop import refusal_of
from samples import GREAT, check_plain_tuple, check_stone, plain_places
from sightstone.errors import BadBlock, BadName, BadStone, Taken, Unknown
from sightstone.shelf import Shelf
from test_names import BAD_NAMES, GOOD_NAMES

METHODS = {
    "put": ["name", "sizes", "places"], "take": ["name"], "names": [], "stone": ["name"], "kinds": [],
    "mate": ["name", "other"],
}

BEND = [(0, 0, 0), (1, 0, 0), (1, 1, 0)]
ROD = [(0, 0, 0), (1, 0, 0), (2, 0, 0)]


def answers_of(shelf):
    """All that a shelf answers."""
    names = shelf.names()
    return deepcopy((
        names, shelf.kinds(), [shelf.stone(name) for name in names],
        [shelf.mate(name, other) for name in names for other in names]))


def filled():
    shelf = Shelf()
    shelf.put("rod", (3, 1, 1), ROD)
    shelf.put("bend", (2, 2, 1), BEND)
    shelf.put("pole", (1, 3, 1), [(0, 0, 0), (0, 1, 0), (0, 2, 0)])
    shelf.put("hook", (1, 2, 2), [(0, 0, 1), (0, 1, 0), (0, 1, 1)])
    shelf.put("wide", (3, 2, 1), BEND)
    return shelf


class CheckShelf(unittest.TestCase):
    def check_refused(self, shelf, error, method, *handed):
        before, kept = answers_of(shelf), deepcopy(handed)
        with self.subTest(method=method, handed=handed), self.assertRaises(error) as held:
            getattr(shelf, method)(*handed)
        self.assertIs(type(held.exception), error)
        self.assertEqual(answers_of(shelf), before)
        self.assertEqual(handed, kept)


class Interface(CheckShelf):
    def test_each_method_stands_in_the_class_with_its_arguments(self):
        for name, names in METHODS.items():
            code = vars(Shelf)[name].__code__
            self.assertEqual(list(code.co_varnames[1:code.co_argcount]), names, name)
            self.assertEqual(code.co_kwonlyargcount, 0)

    def test_a_new_shelf(self):
        shelf = Shelf()
        self.assertEqual((shelf.names(), shelf.kinds()), ([], []))
        for name in ("a", "", "A"):
            self.check_refused(shelf, Unknown, "stone", name)
            self.check_refused(shelf, Unknown, "take", name)
            self.check_refused(shelf, Unknown, "mate", name, name)

    def test_two_shelves_have_nothing_in_common(self):
        one, other = Shelf(), Shelf()
        one.put("a", (1, 1, 1), [])
        self.assertEqual((one.names(), other.names()), (["a"], []))


class Put(CheckShelf):
    def test_names(self):
        shelf = Shelf()
        for name in BAD_NAMES:
            self.check_refused(shelf, BadName, "put", name, (1, 1, 1), [])
        for name in GOOD_NAMES:
            shelf.put(name, (1, 1, 1), [])
        self.assertEqual(shelf.names(), GOOD_NAMES)

    def test_taken_names(self):
        shelf = filled()
        for name in shelf.names():
            self.check_refused(shelf, Taken, "put", name, (1, 1, 1), [])

    def test_bad_blocks(self):
        for sizes in [(), (1, 1), (1, 1, 1, 1), (0, 1, 1), (1, 7, 1), (1, 1, -2), (GREAT, 1, 1)]:
            for handed in (sizes, list(sizes)):
                self.check_refused(filled(), BadBlock, "put", "new", handed, [])

    def test_bad_stones(self):
        for places in [
            [(2, 0, 0)], [[0, 0, -1]], [(0, 0, 0), (0, 3, 0)], [(GREAT, 0, 0)], [(0, -GREAT, 0)],
            [(0, 0, 0), (0, 0, 0)], [(0, 1, 0), [0, 0, 0], [0, 1, 0]],
        ]:
            for sizes in ((2, 3, 1), [2, 3, 1]):
                self.check_refused(filled(), BadStone, "put", "new", sizes, places)

    def test_refusals_in_the_told_order(self):
        shelf = filled()
        self.check_refused(shelf, BadName, "put", "Rod", (0, 0, 0), [(9, 9, 9)])
        self.check_refused(shelf, BadName, "put", "", (1, 1, 1), [(9, 9, 9)])
        self.check_refused(shelf, Taken, "put", "rod", (0, 0, 0), [(9, 9, 9)])
        self.check_refused(shelf, Taken, "put", "rod", (1, 1, 1), [(9, 9, 9)])
        self.check_refused(shelf, BadBlock, "put", "new", (0, 0, 0), [(9, 9, 9)])
        self.check_refused(shelf, BadBlock, "put", "new", (7, 1, 1), [(0, 0, 0), (0, 0, 0)])

    def test_the_told_names_of_alike_stones(self):
        shelf = Shelf()
        for name, sizes, places, wanted in [
            ("rod", (3, 1, 1), ROD, []),
            ("bend", (2, 2, 1), BEND, []),
            ("pole", [1, 1, 3], [[0, 0, 2], (0, 0, 0), [0, 0, 1]], ["rod"]),
            ("hook", (1, 2, 2), [(0, 1, 1), (0, 0, 1), (0, 1, 0)], ["bend"]),
            ("wide", (3, 2, 1), BEND, []),
            ("mast", [1, 3, 1], [(0, 0, 0), (0, 1, 0), (0, 2, 0)], ["rod", "pole"]),
            ("none", (2, 2, 1), [], []),
            ("again", (2, 2, 1), BEND, ["bend", "hook"]),
            ("void", (1, 2, 2), [], ["none"]),
        ]:
            answer = shelf.put(name, sizes, places)
            self.assertIs(type(answer), list)
            self.assertEqual(answer, wanted, name)
        self.assertEqual(shelf.kinds(), [
            ["rod", "pole", "mast"], ["bend", "hook", "again"], ["wide"], ["none", "void"],
        ])

    def test_a_mirrored_stone_is_alike(self):
        shelf = Shelf()
        self.assertEqual(shelf.put("left", (2, 2, 2), HANDED), [])
        self.assertEqual(shelf.put("right", (2, 2, 2), plain_stone((2, 2, 2), MIRROR, HANDED)), ["left"])

    def test_stones_are_kept_rising(self):
        shelf = Shelf()
        shelf.put("a", [2, 2, 1], [[1, 1, 0], (0, 1, 0), [0, 0, 0]])
        answer = shelf.stone("a")
        self.assertIs(type(answer), tuple)
        self.assertEqual(answer, ((2, 2, 1), [(0, 0, 0), (0, 1, 0), (1, 1, 0)]))
        check_plain_tuple(self, answer[0])
        check_stone(self, answer[1])


class TakeAndMate(CheckShelf):
    def test_take_and_putting_again(self):
        shelf = filled()
        self.assertIsNone(shelf.take("rod"))
        self.assertEqual(shelf.names(), ["bend", "pole", "hook", "wide"])
        self.assertEqual(shelf.kinds(), [["bend", "hook"], ["pole"], ["wide"]])
        for method in ("stone", "take"):
            self.check_refused(shelf, Unknown, method, "rod")
        self.assertEqual(shelf.put("rod", (3, 1, 1), ROD), ["pole"])
        self.assertEqual(shelf.names(), ["bend", "pole", "hook", "wide", "rod"])
        self.assertEqual(shelf.kinds(), [["bend", "hook"], ["pole", "rod"], ["wide"]])
        shelf.take("bend")
        self.assertEqual(shelf.put("bend", (1, 1, 1), []), [])
        self.assertEqual(shelf.stone("bend"), ((1, 1, 1), []))
        self.assertEqual(shelf.kinds(), [["pole", "rod"], ["hook"], ["wide"], ["bend"]])

    def test_all_taken(self):
        shelf = filled()
        for name in shelf.names():
            shelf.take(name)
        self.assertEqual(answers_of(shelf), answers_of(Shelf()))

    def test_unknown_names(self):
        shelf = filled()
        for name in ["", "Rod", "ro", "rods", "rod ", "rod\n", "x"]:
            self.check_refused(shelf, Unknown, "stone", name)
            self.check_refused(shelf, Unknown, "take", name)
            self.check_refused(shelf, Unknown, "mate", name, "rod")
            self.check_refused(shelf, Unknown, "mate", "rod", name)
            self.check_refused(shelf, Unknown, "mate", name, name)

    def test_mate(self):
        shelf = filled()
        self.assertEqual(shelf.mate("rod", "pole"), ((1, 0, 2), (0, 0, 0)))
        self.assertEqual(shelf.mate("rod", "rod"), STAY)
        self.assertIsNone(shelf.mate("rod", "bend"))
        self.assertIsNone(shelf.mate("bend", "wide"))
        for name in shelf.names():
            for other in shelf.names():
                moves = plain_between(*shelf.stone(name), *shelf.stone(other))
                self.assertEqual(shelf.mate(name, other), moves[0] if moves else None)
        # The way there and the way back are unlike moves.
        self.assertNotEqual(shelf.mate("bend", "hook"), shelf.mate("hook", "bend"))

    def test_against_the_words(self):
        for seed in range(10):
            dice = Dice(seed + 1000)
            shelf, put = Shelf(), []
            for turn in range(40):
                if put and dice.below(4) == 0:
                    gone = dice.one_of(put)
                    put.remove(gone)
                    shelf.take(gone[0])
                else:
                    sizes = dice.one_of([(2, 2, 1), (1, 2, 2), (2, 1, 2), (3, 1, 1), (1, 1, 3)])
                    stone = dice.one_of(all_stones(sizes))
                    name = dice.one_of("abcdefghijklmnopqrst")
                    if name in [row[0] for row in put]:
                        self.check_refused(shelf, Taken, "put", name, sizes, stone)
                        continue
                    form = plain_form(sizes, stone)
                    alike = [row[0] for row in put if plain_form(*row[1:]) == form]
                    self.assertEqual(shelf.put(name, sizes, stone), alike)
                    put.append((name, sizes, stone))
                self.check_same(shelf, put)

    def check_same(self, shelf, put):
        self.assertEqual(shelf.names(), [row[0] for row in put])
        kinds, forms = [], []
        for name, sizes, stone in put:
            self.assertEqual(shelf.stone(name), (sizes, stone))
            form = plain_form(sizes, stone)
            if form not in forms:
                forms.append(form)
                kinds.append([])
            kinds[forms.index(form)].append(name)
        self.assertEqual(shelf.kinds(), kinds)


class Answers(CheckShelf):
    def test_each_list_is_the_askers_own(self):
        shelf = filled()
        before = answers_of(shelf)
        for spoil in (lambda told: told.clear(), lambda told: told.append("spoilt"), lambda told: told.reverse()):
            spoil(shelf.names())
            spoil(shelf.kinds())
            for kind in shelf.kinds():
                spoil(kind)
            for name in shelf.names():
                spoil(shelf.stone(name)[1])
            self.assertEqual(answers_of(shelf), before)
            spoil(shelf.put("new", (3, 1, 1), ROD))
            shelf.take("new")
            self.assertEqual(answers_of(shelf), before)

    def test_what_is_handed_in_stays_and_is_not_held(self):
        shelf = Shelf()
        sizes, places = [2, 2, 1], [[1, 1, 0], (0, 0, 0), [0, 1, 0]]
        kept = deepcopy((sizes, places))
        shelf.put("a", sizes, places)
        self.assertEqual((sizes, places), kept)
        before = answers_of(shelf)
        sizes[0] = 5
        places[0][0] = 0
        places.clear()
        self.assertEqual(answers_of(shelf), before)
        self.assertEqual(shelf.stone("a"), ((2, 2, 1), [(0, 0, 0), (0, 1, 0), (1, 1, 0)]))


class GreatBlock(CheckShelf):
    def test_each_answers_soon(self):
        sizes = (6, 6, 6)
        shelf = Shelf()
        stones = [plain_places(sizes), Dice(1100).stone(sizes), plain_places(sizes)[::2]]
        names = []
        for at, stone in enumerate(stones):
            for turn, move in enumerate(MOVES[::11]):
                names.append("xyz"[at] + "abcde"[turn])
                start = perf_counter()
                answer = shelf.put(names[-1], plain_block(sizes, move), plain_stone(sizes, move, stone))
                self.assertLess(perf_counter() - start, 3)
                self.assertEqual(answer, names[at * 5:-1])
        start = perf_counter()
        self.assertEqual(shelf.kinds(), [names[:5], names[5:10], names[10:]])
        self.assertIsNone(shelf.mate("xa", "ya"))
        self.assertEqual(
            shelf.mate("ya", "ye"), plain_between(sizes, stones[1], sizes, plain_stone(sizes, MOVES[44], stones[1]))[0])
        self.assertEqual(shelf.stone("xc"), (sizes, stones[0]))
        self.assertEqual(refusal_of(shelf.take, "xc"), None)
        self.assertLess(perf_counter() - start, 5)


if __name__ == "__main__":
    unittest.main()
