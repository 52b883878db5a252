"""Pages: texts of all that a workshop keeps."""

from sightstone.errors import BadPage, SightError
from sightstone.papers import fault_of
from sightstone.stones import lacking
from sightstone.workshop import Workshop, resumed

# All numbers of a page are parts of ways and places, sizes and numbers of eight looks, so no other word is one.
NUMBERS = {
    "-3": -3, "-2": -2, "-1": -1, "0": 0, "1": 1, "2": 2, "3": 3, "4": 4, "5": 5, "6": 6, "7": 7,
}


def written(shop):
    """Answer the page of the workshop."""
    sizes = shop.block()
    rows = [["block", *sizes]]
    for name, (way, picture) in zip(shop.names(), shop.looks()):
        rows.append(["eye", name, *way, picture])
    rows.extend([["gone", *place] for place in shop.gone()])
    rows.extend([["sure", *place] for place in shop.sure()])
    rows.extend([["chip", *place, i, j] for place, i, j in shop.paper()])
    return "\n".join([written_row(row) for row in rows])


def written_row(row):
    """Answer the words and numbers of a row with one blank between."""
    return " ".join([str(word) for word in row])


def read(text):
    """Answer the workshop of a page, or raise BadPage."""
    rows = [line.split(" ") for line in text.split("\n")]
    try:
        shop = told_shop(rows)
    except SightError:
        raise BadPage("the rows do not tell a workshop") from None
    # The rows were taken in any order till here, but a workshop has one page only.
    if written(shop) != text:
        raise BadPage("the rows are not written as those of a page")
    return shop


def told_shop(rows):
    """Answer the workshop that the rows tell, in whatever order, or raise some SightError."""
    shop = Workshop(numbers_of(rows[0][1:], 3))
    paper = []
    for row in rows[1:]:
        word, words = row[0], row[1:]
        if word == "eye":
            set_eye(shop, words)
        elif word == "gone":
            shop.drop(numbers_of(words, 3))
        elif word == "sure":
            shop.keep(numbers_of(words, 3))
        elif word == "chip":
            paper.append(chip_row(words))
        else:
            raise BadPage("a row begins with no such word")
    check_paper(shop, paper)
    return resumed(shop, paper)


def numbers_of(words, many):
    """Answer the numbers of so many words, or raise BadPage."""
    if len(words) != many:
        raise BadPage("a row has too few words or too many")
    if not all(word in NUMBERS for word in words):
        raise BadPage("a word is not a number of a page")
    return [NUMBERS[word] for word in words]


def set_eye(shop, words):
    """Set the eye of the row in the workshop, or raise some SightError."""
    if len(words) != 5:
        raise BadPage("a row of an eye has a name, a way and a picture")
    name, x, y, z, picture = words
    shop.eye(name, numbers_of([x, y, z], 3), picture)


def chip_row(words):
    """Answer the row of the paper, or raise BadPage."""
    x, y, z, i, j = numbers_of(words, 5)
    return ((x, y, z), i, j)


def check_paper(shop, paper):
    """Raise BadPage where a row of the paper does not stand."""
    start = shop.standing()
    left = lacking(start, [row[0] for row in paper])
    if fault_of(shop.block(), shop.looks(), start, paper, left) is not None:
        raise BadPage("a row of the paper does not stand")
